/- LSk, LSl, LSm, one behind the other. -/
import Derived.Test.YtppkgcedkdeccaaDoorJ20
import Derived.BigQuiet
/- Sessions: the specification's do: stolen, dead, over. -/
namespace Go.Proofs.YtppkgcedkdeccaaDoor
set_option linter.unusedSimpArgs false
set_option linter.unusedVariables false
set_option maxRecDepth 20000
open Go.RowKit Go.Maps

set_option maxHeartbeats 8000000 in
theorem do_dead {w0 : World} {b : Nat} {ka : Option Addr} {kl kc : Nat} {x : SsT} {v : Value} {P : List PxT} (k t : Int) (u d i : ByteArray) (w : World) (h : SpAt w0 w b ka kl kc x v P) (hu : u.size ≤ maxLen) (hd : d.size ≤ maxLen) (hi : i.size ≤ maxLen) (hOK : OkS x) (hf : fitE k t u d i = true) (hnt : x.now ≤ t) (hk1 : ¬ k = 1) (hk5 : ¬ k = 5) (j : Nat) (hj : j < P.length) (hfind : findI (idsL x.list) i = some j) (hdev : P[j].s.device = d) (hlast : lastI P[j].s.ids = i) (hdead : P[j].s.dead = true) :
    Calls Tryd.prog 47 #[.pointer (some ⟨b, 0, none⟩), .agg #[.int .i64 k, .int .i64 t, .string u, .string d, .string i]] w (DoQ w0 w b ka kl kc ({ x with now := t }) (errR 5)) := by
  have HOL := h.lenP hOK
  have HOK : OkS { x with now := t } := ⟨fit_t hf, hOK.ln, hOK.gv, hOK.all, hOK.id, hOK.mo⟩
  have hbz := h.box.lt
  have nSE : ¬ St 34 := by unfold St; decide
  have nSR : ¬ St 31 := by unfold St; decide
  obtain ⟨W1, hW1⟩ : ∃ W, W = w.alloc (.cells #[.int .i64 k, .int .i64 t, .string u, .string d, .string i] 34) := ⟨_, rfl⟩
  obtain ⟨W2, hW2⟩ : ∃ W, W = W1.alloc (.cells #[.int .i64 0, .string ⟨#[]⟩, .string ⟨#[]⟩, .int .i64 0] 31) := ⟨_, rfl⟩
  have z1 : W1.heap.size = w.heap.size + 1 := by rw [hW1]; simp
  have b1 : Below w.heap.size w W1 := by rw [hW1]; exact bAl (Below.refl _ _) _
  have b2 : Below W1.heap.size W1 W2 := by rw [hW2]; exact bAl (Below.refl _ _) _
  have RE := hide ((show RowIs W1 w.heap.size #[.int .i64 k, .int .i64 t, .string u, .string d, .string i] 34 by rw [hW1]; exact RowIs.new _ _ _).keep b2)
  have RP := hide (show RowIs W2 (w.heap.size + 1) rp0 31 by rw [hW2, ← z1]; exact RowIs.new _ _ _)
  have H := hide ((h.keep b1).keep b2)
  have TC := hide (h.tch (bTr b1 b2))
  rw [hW1] at hW2
  have HW2 := hide hW2.symm
  have HLO := hide h.lo
  clear hW1 hW2 z1 b1 b2 h
  have qb := hide (sBad_any k t u d i W2 hu hd)
  rw [hf] at qb
  simp only [Bool.not_true, Bool.not_false] at qb
  have e0 := (unhide RE).at (o := 0) (v := .int .i64 k) rfl
  have e1 := (unhide RE).at (o := 1) (v := .int .i64 t) rfl
  have e2 := (unhide RE).at (o := 2) (v := .string u) rfl
  have e3 := (unhide RE).at (o := 3) (v := .string d) rfl
  have e4 := (unhide RE).at (o := 4) (v := .string i) rfl
  have ez := (unhide RE).lt
  go_enter Tryd.func47, Tryd.ntmps47
  go_upto_region 1 with fail
  refine wp_world (unhide HW2) ?_
  clear HW2
  go_wp2_with fail
  refine (unhide qb).mono ?_
  rintro e w3 ⟨rfl, hb3⟩
  replace RE := hide ((unhide RE).keep hb3)
  replace RP := hide ((unhide RP).keep hb3)
  replace TC := hide ((unhide TC).trans ((unhide H).tch hb3))
  replace H := hide ((unhide H).keep hb3)
  clear hb3
  clear e0 e1 e2 e3 e4 ez
  clear qb
  have c3 := (unhide H).box.at (o := 3) (v := .int .i64 x.now) rfl
  have cz := (unhide H).box.lt
  have nt : ¬ t < x.now := by omega
  have e0 := (unhide RE).at (o := 0) (v := .int .i64 k) rfl
  have e1 := (unhide RE).at (o := 1) (v := .int .i64 t) rfl
  have e2 := (unhide RE).at (o := 2) (v := .string u) rfl
  have e3 := (unhide RE).at (o := 3) (v := .string d) rfl
  have e4 := (unhide RE).at (o := 4) (v := .string i) rfl
  have ez := (unhide RE).lt
  go_upto_region 3 with fail
  go_region
  go_upto_region 5 with fail
  obtain ⟨w4, hw4⟩ : ∃ W, W = w3.drew := ⟨_, rfl⟩
  refine wp_world hw4.symm ?_
  have hb4 : Below w3.heap.size w3 w4 := by rw [hw4]; exact (Below.refl _ _).drew
  clear c3 cz nt hw4
  clear e0 e1 e2 e3 e4 ez
  replace RE := hide ((unhide RE).keep hb4)
  replace RP := hide ((unhide RP).keep hb4)
  replace TC := hide ((unhide TC).trans ((unhide H).tch hb4))
  replace H := hide ((unhide H).keep hb4)
  clear hb4
  have e0 := (unhide RE).at (o := 0) (v := .int .i64 k) rfl
  have e1 := (unhide RE).at (o := 1) (v := .int .i64 t) rfl
  have e2 := (unhide RE).at (o := 2) (v := .string u) rfl
  have e3 := (unhide RE).at (o := 3) (v := .string d) rfl
  have e4 := (unhide RE).at (o := 4) (v := .string i) rfl
  have ez := (unhide RE).lt
  have c3 := (unhide H).box.at (o := 3) (v := .int .i64 x.now) rfl
  have f3 := (unhide H).box.froz 3
  have cz := (unhide H).box.lt
  obtain ⟨w5, hw5⟩ : ∃ W, W = w4.setCell ⟨b, 3, none⟩ (.int .i64 t) := ⟨_, rfl⟩
  have HW5 := hide hw5.symm
  have z5 : w5.heap.size = w4.heap.size := by rw [hw5]; simp [World.setCell]
  have nb1 : w.heap.size ≠ b := by omega
  have nb2 : w.heap.size + 1 ≠ b := by omega
  have RE' := hide (show RowIs w5 w.heap.size _ 34 by rw [hw5]; exact (unhide RE).setOther _ nb1)
  have RP' := hide (show RowIs w5 (w.heap.size + 1) rp0 31 by rw [hw5]; exact (unhide RP).setOther _ nb2)
  have TC' := hide (show Tch St b w w5 by rw [hw5]; exact (unhide TC).trans ((unhide H).tchB _ _))
  have H' := hide (show SpAt w0 w5 b ka kl kc { x with now := t } v P by rw [hw5]; exact (unhide H).setBox 3 _ _ _ rfl rfl rfl)
  clear hw5
  go_upto_region 6 with fail
  refine wp_world (unhide HW5) ?_
  clear HW5 RE RP TC H c3 f3 cz
  clear e0 e1 e2 e3 e4 ez
  have RE := RE'
  have RP := RP'
  have TC := TC'
  have H := H'
  clear RE' RP' TC' H' z5 nb1 nb2
  obtain ⟨va, vc, rfl, hform⟩ := (unhide H).slice
  have HF := hide hform
  clear hform
  obtain ⟨n, hn⟩ : ∃ n, P.length = n := ⟨_, rfl⟩
  have n1000 : n ≤ 1000 := by rw [← hn]; exact HOL
  have HN := hide hn
  rw [hn] at H
  clear hn
  have nk1 : (k == 1) = false := by simpa using hk1
  have nk5 : (k == 5) = false := by simpa using hk5
  have e0 := (unhide RE).at (o := 0) (v := .int .i64 k) rfl
  have e1 := (unhide RE).at (o := 1) (v := .int .i64 t) rfl
  have e2 := (unhide RE).at (o := 2) (v := .string u) rfl
  have e3 := (unhide RE).at (o := 3) (v := .string d) rfl
  have e4 := (unhide RE).at (o := 4) (v := .string i) rfl
  have ez := (unhide RE).lt
  have c5 := (unhide H).box.at (o := 5) (v := .slice va n vc) rfl
  have cz := (unhide H).box.lt
  go_wp2_with fail
  go_loopw [7, 96] (fun a q w' => ∃ m : Nat, m ≤ n ∧ q = .int .i64 m ∧ a = .int .i64 (atV (findK (idsL x.list) i m)) ∧ Hid (Below w5.heap.size w5 w')) (fun _ q _ => n - (intOf q).toNat)
  case atStart => exact ⟨0, Nat.zero_le _, rfl, rfl, hide (Below.refl _ _)⟩
  case round =>
    obtain ⟨m, hm, rfl, rfl, hb⟩ := hrel
    have BB := hb
    clear hb
    by_cases hlt : m < n
    · have HR := hide ((unhide H).keep (unhide BB))
      obtain ⟨g, rfl, _, _⟩ := unhide HF (by rw [unhide HN]; omega)
      have hmP : m < P.length := by rw [unhide HN]; exact hlt
      obtain ⟨p, hp⟩ : ∃ p, P[m] = p := ⟨_, rfl⟩
      have HC : ∀ {j : Nat} {y : Value}, (encP p)[j]? = some y → wr.cell? ⟨g, m * 7 + j, none⟩ = some y := fun {j y} e => by
        have q := unhide HR
        rw [← unhide HN] at q
        exact q.cells hmP (by rw [hp]; exact e)
      have x0 := HC (j := 0) (y := .slice (some ⟨p.g, 0, none⟩) p.s.ids.length p.c) rfl
      rw [Nat.add_zero] at x0
      have x1 := HC (j := 1) (y := .string p.s.user) rfl
      have x2 := HC (j := 2) (y := .string p.s.device) rfl
      have x3 := HC (j := 3) (y := .int .i64 p.s.level) rfl
      have x4 := HC (j := 4) (y := .int .i64 p.s.login) rfl
      have x5 := HC (j := 5) (y := .int .i64 p.s.last) rfl
      have x6 := HC (j := 6) (y := .bool p.s.dead) rfl
      have IDS := hide (own_slS (by have q := (unhide HR).ids m hmP; rw [hp] at q; exact q))
      have IA := hide (show (idsL x.list).getD m [] = p.s.ids by rw [← hp]; exact (unhide H).idsAt hmP)
      have ILN : p.s.ids.length ≤ 1000 := by
        have q := ((unhide H).okP HOK hmP).il
        rw [hp] at q
        exact Nat.le_trans q HOK.gv
      have RER := hide ((unhide RE).keep (unhide BB))
      clear HC hp
      generalize p.s.user = pu at *
      generalize p.s.device = pd at *
      generalize p.s.level = pl at *
      generalize p.s.login = pg at *
      generalize p.s.last = pa at *
      generalize p.s.dead = pe at *
      generalize p.s.ids = pi at *
      obtain ⟨pn, hpn⟩ : ∃ q, pi.length = q := ⟨_, rfl⟩
      rw [hpn] at x0 ILN
      have PN := hide hpn
      rw [hpn] at IDS
      clear hpn
      have re4 := (unhide RER).at (o := 4) (v := .string i) rfl
      have rez := (unhide RER).lt
      have AN := hide (fun (B : Bool) (hB : B = true ↔ i ∈ pi) => atV_next (L := idsL x.list) (y := i) (k := m) B (by rw [unhide IA]; exact hB))
      go_wp2_with fail
      refine (V.l3Has_anyY _ pn p.c pi i _ (by omega) ((unhide IDS).keep (bAl (Below.refl _ _) _))).mono ?_
      rintro e wx ⟨⟨vb, rfl, hvb⟩, rfl⟩
      have HVB := hide (unhide AN vb hvb)
      clear AN hvb x0 x1 x2 x3 x4 x5 x6
      have BN := hide (bTr (unhide BB) (bAl (Below.refl _ _) (.cells #[.slice (some ⟨p.g, 0, none⟩) pn p.c, .string pu, .string pd, .int .i64 pl, .int .i64 pg, .int .i64 pa, .bool pe] 79)))
      cases vb
      all_goals
        go_wp2_with fail
        exact ⟨⟨m + 1, by omega, by go_num, by rw [unhide HVB]; simp, BN⟩, by simp [intOf]; omega⟩
    · have em : m = n := by omega
      subst em
      have HR := hide ((unhide H).keep (unhide BB))
      replace RE := hide ((unhide RE).keep (unhide BB))
      replace RP := hide ((unhide RP).keep (unhide BB))
      replace TC := hide ((unhide TC).trans ((unhide H).tch (unhide BB)))
      clear H BB
      have H := HR
      clear HR
      obtain ⟨AT, hAT⟩ : ∃ q, findK (idsL x.list) i m = q := ⟨_, rfl⟩
      have hfi : findI (idsL x.list) i = AT := by unfold findI; rw [(unhide H).idsLen, unhide HN]; exact hAT
      rw [hAT]
      clear hAT e0 e1 e2 e3 e4 ez c5 cz
      obtain rfl : AT = some j := hfi.symm.trans hfind
      simp only [atV]
      have hjm : j < m := by rw [← unhide HN]; exact hj
      have nj : ¬ (j : Int) < 0 := by omega
      obtain ⟨g, rfl, hgz, hbg⟩ := unhide HF (by omega)
      obtain ⟨p, hp⟩ : ∃ p, P[j] = p := ⟨_, rfl⟩
      rw [hp] at hlast hdev hdead
      have HP := hide hp
      have OP := hide (show OkX x.key x.given p.s by have q := (unhide H).okP HOK hj; rw [hp] at q; exact q)
      obtain ⟨pn, hpn⟩ : ∃ q, p.s.ids.length = q + 1 := ⟨p.s.ids.length - 1, by have := List.length_pos_iff.2 (unhide OP).ne; omega⟩
      have HPN := hide hpn
      have pn1000 : pn ≤ 1000 := by have q := (unhide OP).il; have q2 := hOK.gv; omega
      have QH := hide (show SpAt w0 wr b ka kl kc { x with now := t } (.slice (some ⟨g, 0, none⟩) P.length vc) P by rw [unhide HN]; exact unhide H)
      have HC : ∀ {o : Nat} {y : Value}, (encP p)[o]? = some y → wr.cell? ⟨g, j * 7 + o, none⟩ = some y := fun {o y} e => (unhide QH).cells hj (by rw [hp]; exact e)
      have gw : g < wr.heap.size := ((unhide QH).row.lt g rfl).2
      have x0 := kept_cell (W := wr) (p := ⟨g, j * 7 + 0, none⟩) gw (HC (o := 0) (y := .slice (some ⟨p.g, 0, none⟩) p.s.ids.length p.c) rfl)
      rw [Nat.add_zero, hpn] at x0
      have x1 := kept_cell (W := wr) (p := ⟨g, j * 7 + 1, none⟩) gw (HC (o := 1) (y := .string p.s.user) rfl)
      have x2 := kept_cell (W := wr) (p := ⟨g, j * 7 + 2, none⟩) gw (HC (o := 2) (y := .string p.s.device) rfl)
      have x3 := kept_cell (W := wr) (p := ⟨g, j * 7 + 3, none⟩) gw (HC (o := 3) (y := .int .i64 p.s.level) rfl)
      have x4 := kept_cell (W := wr) (p := ⟨g, j * 7 + 4, none⟩) gw (HC (o := 4) (y := .int .i64 p.s.login) rfl)
      have x5 := kept_cell (W := wr) (p := ⟨g, j * 7 + 5, none⟩) gw (HC (o := 5) (y := .int .i64 p.s.last) rfl)
      have x6 := kept_cell (W := wr) (p := ⟨g, j * 7 + 6, none⟩) gw (HC (o := 6) (y := .bool p.s.dead) rfl)
      have id0 := (unhide QH).ids j hj
      rw [hp] at id0
      have x7 := kept_cell (W := wr) (p := ⟨p.g, pn, none⟩) ((id0.lt p.g rfl).2) (by
        rw [id0.cellAt pn (by omega)]
        have q := lastI_get (unhide OP).ne
        rw [hpn, Nat.add_sub_cancel] at q
        show (p.s.ids.map Value.string)[pn]? = some (.string (lastI p.s.ids))
        rw [List.getElem?_map, q]; rfl)
      have y3 := kept_cell (W := wr) (unhide RE).lt ((unhide RE).at (o := 3) (v := .string d) rfl)
      have y4 := kept_cell (W := wr) (unhide RE).lt ((unhide RE).at (o := 4) (v := .string i) rfl)
      have y0 := kept_cell (W := wr) (unhide RE).lt ((unhide RE).at (o := 0) (v := .int .i64 k) rfl)
      have c5 := (unhide H).box.at (o := 5) (v := .slice (some ⟨g, 0, none⟩) m vc) rfl
      have cz := (unhide H).box.lt
      have ne : Nonempty (Kept wr) := ⟨⟨wr, Below.refl _ _⟩⟩
      have wi : IntKind.i64.wrap (((pn + 1 : Nat) : Int) - 1) = (pn : Int) := by rw [IntKind.wrap_i64]; omega
      clear HC id0 hp hpn
      go_upto_region 28 with fail
      clear c5 cz
      rw [hlast] at x7
      rw [hdev] at x2
      have s1 := V.str_eqY i
      have s2 := V.str_eqY d
      refine wp_region_kept (by kernel_rfl) (by kernel_rfl) ?_
      repeat (first
        | go_big_quiet_step ((fail))
        | quiet_step ((fail)))
      refine wpQuiet_nil ?_
      rintro _ ⟨q, rfl⟩
      obtain ⟨wq, hwq⟩ : ∃ W, W = q.w := ⟨_, rfl⟩
      have hbq : Below wr.heap.size wr wq := by rw [hwq]; exact q.h
      rw [← hwq]
      clear hwq q
      replace RE := hide ((unhide RE).keep hbq)
      replace RP := hide ((unhide RP).keep hbq)
      replace TC := hide ((unhide TC).trans ((unhide H).tch hbq))
      replace H := hide ((unhide H).keep hbq)
      replace QH := hide ((unhide QH).keep hbq)
      clear hbq
      clear x0 x1 x2 x3 x4 x5 x6 x7 y0 y3 y4 ne gw
      clear s1 s2 wi
      have HC : ∀ {o : Nat} {y : Value}, (encP p)[o]? = some y → wq.cell? ⟨g, j * 7 + o, none⟩ = some y := fun {o y} e => (unhide QH).cells hj (by rw [unhide HP]; exact e)
      have v6 := HC (o := 6) (y := (.bool p.s.dead)) rfl
      have vg : g < wq.heap.size := ((unhide QH).row.lt g rfl).2
      clear HC
      rw [hdead] at v6
      go_wp2_with fail
      refine (sErr_c 5 _).mono ?_
      rintro e w9 ⟨rfl, hb9⟩
      replace RE := hide ((unhide RE).keep hb9)
      replace RP := hide ((unhide RP).keep hb9)
      replace TC := hide ((unhide TC).trans ((unhide H).tch hb9))
      replace H := hide ((unhide H).keep hb9)
      clear hb9
      have r0 := (unhide RP).at (o := 0) (v := .int .i64 0) rfl
      have f0 := (unhide RP).froz 0
      have r1 := (unhide RP).at (o := 1) (v := .string ⟨#[]⟩) rfl
      have f1 := (unhide RP).froz 1
      have r2 := (unhide RP).at (o := 2) (v := .string ⟨#[]⟩) rfl
      have f2 := (unhide RP).froz 2
      have r3 := (unhide RP).at (o := 3) (v := .int .i64 0) rfl
      have f3 := (unhide RP).froz 3
      have rz := (unhide RP).lt
      go_wp2_with fail
      try simp only [Exit.inBlock, Exit.then]
      have qe := fun (n f3 : Int) (f1 f2 : ByteArray) => SpAt.end4 (n := n) (f1 := f1) (f2 := f2) (f3 := f3) (unhide H) (unhide RP) (unhide TC) hbz
      exact bodyPost_ret (ret_reply (fn := Tryd.f47) rfl _ _ (w.heap.size + 1) (encR ⟨_, _, _, _⟩) rfl rfl (qe _ _ _ _).1) rfl ⟨rfl, (qe _ _ _ _).2⟩
set_option maxHeartbeats 8000000 in
theorem do_stolen1 {w0 : World} {b : Nat} {ka : Option Addr} {kl kc : Nat} {x : SsT} {v : Value} {P : List PxT} (k t : Int) (u d i : ByteArray) (w : World) (h : SpAt w0 w b ka kl kc x v P) (hu : u.size ≤ maxLen) (hd : d.size ≤ maxLen) (hi : i.size ≤ maxLen) (hOK : OkS x) (hf : fitE k t u d i = true) (hnt : x.now ≤ t) (hk1 : ¬ k = 1) (hk5 : ¬ k = 5) (j : Nat) (hj : j < P.length) (hfind : findI (idsL x.list) i = some j) (hlast : ¬ lastI P[j].s.ids = i) :
    Calls Tryd.prog 47 #[.pointer (some ⟨b, 0, none⟩), .agg #[.int .i64 k, .int .i64 t, .string u, .string d, .string i]] w (DoQ w0 w b ka kl kc ({ x with now := t, list := x.list.set j { P[j].s with dead := true } }) (errR 4)) := by
  have HOL := h.lenP hOK
  have HOK : OkS { x with now := t } := ⟨fit_t hf, hOK.ln, hOK.gv, hOK.all, hOK.id, hOK.mo⟩
  have hbz := h.box.lt
  have nSE : ¬ St 34 := by unfold St; decide
  have nSR : ¬ St 31 := by unfold St; decide
  obtain ⟨W1, hW1⟩ : ∃ W, W = w.alloc (.cells #[.int .i64 k, .int .i64 t, .string u, .string d, .string i] 34) := ⟨_, rfl⟩
  obtain ⟨W2, hW2⟩ : ∃ W, W = W1.alloc (.cells #[.int .i64 0, .string ⟨#[]⟩, .string ⟨#[]⟩, .int .i64 0] 31) := ⟨_, rfl⟩
  have z1 : W1.heap.size = w.heap.size + 1 := by rw [hW1]; simp
  have b1 : Below w.heap.size w W1 := by rw [hW1]; exact bAl (Below.refl _ _) _
  have b2 : Below W1.heap.size W1 W2 := by rw [hW2]; exact bAl (Below.refl _ _) _
  have RE := hide ((show RowIs W1 w.heap.size #[.int .i64 k, .int .i64 t, .string u, .string d, .string i] 34 by rw [hW1]; exact RowIs.new _ _ _).keep b2)
  have RP := hide (show RowIs W2 (w.heap.size + 1) rp0 31 by rw [hW2, ← z1]; exact RowIs.new _ _ _)
  have H := hide ((h.keep b1).keep b2)
  have TC := hide (h.tch (bTr b1 b2))
  rw [hW1] at hW2
  have HW2 := hide hW2.symm
  have HLO := hide h.lo
  clear hW1 hW2 z1 b1 b2 h
  have qb := hide (sBad_any k t u d i W2 hu hd)
  rw [hf] at qb
  simp only [Bool.not_true, Bool.not_false] at qb
  have e0 := (unhide RE).at (o := 0) (v := .int .i64 k) rfl
  have e1 := (unhide RE).at (o := 1) (v := .int .i64 t) rfl
  have e2 := (unhide RE).at (o := 2) (v := .string u) rfl
  have e3 := (unhide RE).at (o := 3) (v := .string d) rfl
  have e4 := (unhide RE).at (o := 4) (v := .string i) rfl
  have ez := (unhide RE).lt
  go_enter Tryd.func47, Tryd.ntmps47
  go_upto_region 1 with fail
  refine wp_world (unhide HW2) ?_
  clear HW2
  go_wp2_with fail
  refine (unhide qb).mono ?_
  rintro e w3 ⟨rfl, hb3⟩
  replace RE := hide ((unhide RE).keep hb3)
  replace RP := hide ((unhide RP).keep hb3)
  replace TC := hide ((unhide TC).trans ((unhide H).tch hb3))
  replace H := hide ((unhide H).keep hb3)
  clear hb3
  clear e0 e1 e2 e3 e4 ez
  clear qb
  have c3 := (unhide H).box.at (o := 3) (v := .int .i64 x.now) rfl
  have cz := (unhide H).box.lt
  have nt : ¬ t < x.now := by omega
  have e0 := (unhide RE).at (o := 0) (v := .int .i64 k) rfl
  have e1 := (unhide RE).at (o := 1) (v := .int .i64 t) rfl
  have e2 := (unhide RE).at (o := 2) (v := .string u) rfl
  have e3 := (unhide RE).at (o := 3) (v := .string d) rfl
  have e4 := (unhide RE).at (o := 4) (v := .string i) rfl
  have ez := (unhide RE).lt
  go_upto_region 3 with fail
  go_region
  go_upto_region 5 with fail
  obtain ⟨w4, hw4⟩ : ∃ W, W = w3.drew := ⟨_, rfl⟩
  refine wp_world hw4.symm ?_
  have hb4 : Below w3.heap.size w3 w4 := by rw [hw4]; exact (Below.refl _ _).drew
  clear c3 cz nt hw4
  clear e0 e1 e2 e3 e4 ez
  replace RE := hide ((unhide RE).keep hb4)
  replace RP := hide ((unhide RP).keep hb4)
  replace TC := hide ((unhide TC).trans ((unhide H).tch hb4))
  replace H := hide ((unhide H).keep hb4)
  clear hb4
  have e0 := (unhide RE).at (o := 0) (v := .int .i64 k) rfl
  have e1 := (unhide RE).at (o := 1) (v := .int .i64 t) rfl
  have e2 := (unhide RE).at (o := 2) (v := .string u) rfl
  have e3 := (unhide RE).at (o := 3) (v := .string d) rfl
  have e4 := (unhide RE).at (o := 4) (v := .string i) rfl
  have ez := (unhide RE).lt
  have c3 := (unhide H).box.at (o := 3) (v := .int .i64 x.now) rfl
  have f3 := (unhide H).box.froz 3
  have cz := (unhide H).box.lt
  obtain ⟨w5, hw5⟩ : ∃ W, W = w4.setCell ⟨b, 3, none⟩ (.int .i64 t) := ⟨_, rfl⟩
  have HW5 := hide hw5.symm
  have z5 : w5.heap.size = w4.heap.size := by rw [hw5]; simp [World.setCell]
  have nb1 : w.heap.size ≠ b := by omega
  have nb2 : w.heap.size + 1 ≠ b := by omega
  have RE' := hide (show RowIs w5 w.heap.size _ 34 by rw [hw5]; exact (unhide RE).setOther _ nb1)
  have RP' := hide (show RowIs w5 (w.heap.size + 1) rp0 31 by rw [hw5]; exact (unhide RP).setOther _ nb2)
  have TC' := hide (show Tch St b w w5 by rw [hw5]; exact (unhide TC).trans ((unhide H).tchB _ _))
  have H' := hide (show SpAt w0 w5 b ka kl kc { x with now := t } v P by rw [hw5]; exact (unhide H).setBox 3 _ _ _ rfl rfl rfl)
  clear hw5
  go_upto_region 6 with fail
  refine wp_world (unhide HW5) ?_
  clear HW5 RE RP TC H c3 f3 cz
  clear e0 e1 e2 e3 e4 ez
  have RE := RE'
  have RP := RP'
  have TC := TC'
  have H := H'
  clear RE' RP' TC' H' z5 nb1 nb2
  obtain ⟨va, vc, rfl, hform⟩ := (unhide H).slice
  have HF := hide hform
  clear hform
  obtain ⟨n, hn⟩ : ∃ n, P.length = n := ⟨_, rfl⟩
  have n1000 : n ≤ 1000 := by rw [← hn]; exact HOL
  have HN := hide hn
  rw [hn] at H
  clear hn
  have nk1 : (k == 1) = false := by simpa using hk1
  have nk5 : (k == 5) = false := by simpa using hk5
  have e0 := (unhide RE).at (o := 0) (v := .int .i64 k) rfl
  have e1 := (unhide RE).at (o := 1) (v := .int .i64 t) rfl
  have e2 := (unhide RE).at (o := 2) (v := .string u) rfl
  have e3 := (unhide RE).at (o := 3) (v := .string d) rfl
  have e4 := (unhide RE).at (o := 4) (v := .string i) rfl
  have ez := (unhide RE).lt
  have c5 := (unhide H).box.at (o := 5) (v := .slice va n vc) rfl
  have cz := (unhide H).box.lt
  go_wp2_with fail
  go_loopw [7, 96] (fun a q w' => ∃ m : Nat, m ≤ n ∧ q = .int .i64 m ∧ a = .int .i64 (atV (findK (idsL x.list) i m)) ∧ Hid (Below w5.heap.size w5 w')) (fun _ q _ => n - (intOf q).toNat)
  case atStart => exact ⟨0, Nat.zero_le _, rfl, rfl, hide (Below.refl _ _)⟩
  case round =>
    obtain ⟨m, hm, rfl, rfl, hb⟩ := hrel
    have BB := hb
    clear hb
    by_cases hlt : m < n
    · have HR := hide ((unhide H).keep (unhide BB))
      obtain ⟨g, rfl, _, _⟩ := unhide HF (by rw [unhide HN]; omega)
      have hmP : m < P.length := by rw [unhide HN]; exact hlt
      obtain ⟨p, hp⟩ : ∃ p, P[m] = p := ⟨_, rfl⟩
      have HC : ∀ {j : Nat} {y : Value}, (encP p)[j]? = some y → wr.cell? ⟨g, m * 7 + j, none⟩ = some y := fun {j y} e => by
        have q := unhide HR
        rw [← unhide HN] at q
        exact q.cells hmP (by rw [hp]; exact e)
      have x0 := HC (j := 0) (y := .slice (some ⟨p.g, 0, none⟩) p.s.ids.length p.c) rfl
      rw [Nat.add_zero] at x0
      have x1 := HC (j := 1) (y := .string p.s.user) rfl
      have x2 := HC (j := 2) (y := .string p.s.device) rfl
      have x3 := HC (j := 3) (y := .int .i64 p.s.level) rfl
      have x4 := HC (j := 4) (y := .int .i64 p.s.login) rfl
      have x5 := HC (j := 5) (y := .int .i64 p.s.last) rfl
      have x6 := HC (j := 6) (y := .bool p.s.dead) rfl
      have IDS := hide (own_slS (by have q := (unhide HR).ids m hmP; rw [hp] at q; exact q))
      have IA := hide (show (idsL x.list).getD m [] = p.s.ids by rw [← hp]; exact (unhide H).idsAt hmP)
      have ILN : p.s.ids.length ≤ 1000 := by
        have q := ((unhide H).okP HOK hmP).il
        rw [hp] at q
        exact Nat.le_trans q HOK.gv
      have RER := hide ((unhide RE).keep (unhide BB))
      clear HC hp
      generalize p.s.user = pu at *
      generalize p.s.device = pd at *
      generalize p.s.level = pl at *
      generalize p.s.login = pg at *
      generalize p.s.last = pa at *
      generalize p.s.dead = pe at *
      generalize p.s.ids = pi at *
      obtain ⟨pn, hpn⟩ : ∃ q, pi.length = q := ⟨_, rfl⟩
      rw [hpn] at x0 ILN
      have PN := hide hpn
      rw [hpn] at IDS
      clear hpn
      have re4 := (unhide RER).at (o := 4) (v := .string i) rfl
      have rez := (unhide RER).lt
      have AN := hide (fun (B : Bool) (hB : B = true ↔ i ∈ pi) => atV_next (L := idsL x.list) (y := i) (k := m) B (by rw [unhide IA]; exact hB))
      go_wp2_with fail
      refine (V.l3Has_anyY _ pn p.c pi i _ (by omega) ((unhide IDS).keep (bAl (Below.refl _ _) _))).mono ?_
      rintro e wx ⟨⟨vb, rfl, hvb⟩, rfl⟩
      have HVB := hide (unhide AN vb hvb)
      clear AN hvb x0 x1 x2 x3 x4 x5 x6
      have BN := hide (bTr (unhide BB) (bAl (Below.refl _ _) (.cells #[.slice (some ⟨p.g, 0, none⟩) pn p.c, .string pu, .string pd, .int .i64 pl, .int .i64 pg, .int .i64 pa, .bool pe] 79)))
      cases vb
      all_goals
        go_wp2_with fail
        exact ⟨⟨m + 1, by omega, by go_num, by rw [unhide HVB]; simp, BN⟩, by simp [intOf]; omega⟩
    · have em : m = n := by omega
      subst em
      have HR := hide ((unhide H).keep (unhide BB))
      replace RE := hide ((unhide RE).keep (unhide BB))
      replace RP := hide ((unhide RP).keep (unhide BB))
      replace TC := hide ((unhide TC).trans ((unhide H).tch (unhide BB)))
      clear H BB
      have H := HR
      clear HR
      obtain ⟨AT, hAT⟩ : ∃ q, findK (idsL x.list) i m = q := ⟨_, rfl⟩
      have hfi : findI (idsL x.list) i = AT := by unfold findI; rw [(unhide H).idsLen, unhide HN]; exact hAT
      rw [hAT]
      clear hAT e0 e1 e2 e3 e4 ez c5 cz
      obtain rfl : AT = some j := hfi.symm.trans hfind
      simp only [atV]
      have hjm : j < m := by rw [← unhide HN]; exact hj
      have nj : ¬ (j : Int) < 0 := by omega
      obtain ⟨g, rfl, hgz, hbg⟩ := unhide HF (by omega)
      obtain ⟨p, hp⟩ : ∃ p, P[j] = p := ⟨_, rfl⟩
      rw [hp] at hlast
      have HP := hide hp
      have HX := hide (show { x with now := t, list := x.list.set j { p.s with dead := true } } = { x with now := t, list := x.list.set j { P[j].s with dead := true } } by rw [hp])
      have OP := hide (show OkX x.key x.given p.s by have q := (unhide H).okP HOK hj; rw [hp] at q; exact q)
      obtain ⟨pn, hpn⟩ : ∃ q, p.s.ids.length = q + 1 := ⟨p.s.ids.length - 1, by have := List.length_pos_iff.2 (unhide OP).ne; omega⟩
      have HPN := hide hpn
      have pn1000 : pn ≤ 1000 := by have q := (unhide OP).il; have q2 := hOK.gv; omega
      have QH := hide (show SpAt w0 wr b ka kl kc { x with now := t } (.slice (some ⟨g, 0, none⟩) P.length vc) P by rw [unhide HN]; exact unhide H)
      have HC : ∀ {o : Nat} {y : Value}, (encP p)[o]? = some y → wr.cell? ⟨g, j * 7 + o, none⟩ = some y := fun {o y} e => (unhide QH).cells hj (by rw [hp]; exact e)
      have gw : g < wr.heap.size := ((unhide QH).row.lt g rfl).2
      have x0 := kept_cell (W := wr) (p := ⟨g, j * 7 + 0, none⟩) gw (HC (o := 0) (y := .slice (some ⟨p.g, 0, none⟩) p.s.ids.length p.c) rfl)
      rw [Nat.add_zero, hpn] at x0
      have x1 := kept_cell (W := wr) (p := ⟨g, j * 7 + 1, none⟩) gw (HC (o := 1) (y := .string p.s.user) rfl)
      have x2 := kept_cell (W := wr) (p := ⟨g, j * 7 + 2, none⟩) gw (HC (o := 2) (y := .string p.s.device) rfl)
      have x3 := kept_cell (W := wr) (p := ⟨g, j * 7 + 3, none⟩) gw (HC (o := 3) (y := .int .i64 p.s.level) rfl)
      have x4 := kept_cell (W := wr) (p := ⟨g, j * 7 + 4, none⟩) gw (HC (o := 4) (y := .int .i64 p.s.login) rfl)
      have x5 := kept_cell (W := wr) (p := ⟨g, j * 7 + 5, none⟩) gw (HC (o := 5) (y := .int .i64 p.s.last) rfl)
      have x6 := kept_cell (W := wr) (p := ⟨g, j * 7 + 6, none⟩) gw (HC (o := 6) (y := .bool p.s.dead) rfl)
      have id0 := (unhide QH).ids j hj
      rw [hp] at id0
      have x7 := kept_cell (W := wr) (p := ⟨p.g, pn, none⟩) ((id0.lt p.g rfl).2) (by
        rw [id0.cellAt pn (by omega)]
        have q := lastI_get (unhide OP).ne
        rw [hpn, Nat.add_sub_cancel] at q
        show (p.s.ids.map Value.string)[pn]? = some (.string (lastI p.s.ids))
        rw [List.getElem?_map, q]; rfl)
      have y3 := kept_cell (W := wr) (unhide RE).lt ((unhide RE).at (o := 3) (v := .string d) rfl)
      have y4 := kept_cell (W := wr) (unhide RE).lt ((unhide RE).at (o := 4) (v := .string i) rfl)
      have y0 := kept_cell (W := wr) (unhide RE).lt ((unhide RE).at (o := 0) (v := .int .i64 k) rfl)
      have c5 := (unhide H).box.at (o := 5) (v := .slice (some ⟨g, 0, none⟩) m vc) rfl
      have cz := (unhide H).box.lt
      have ne : Nonempty (Kept wr) := ⟨⟨wr, Below.refl _ _⟩⟩
      have wi : IntKind.i64.wrap (((pn + 1 : Nat) : Int) - 1) = (pn : Int) := by rw [IntKind.wrap_i64]; omega
      clear HC id0 hp hpn
      go_upto_region 28 with fail
      clear c5 cz
      have s1 := V.str_neY hlast
      refine wp_region_kept (by kernel_rfl) (by kernel_rfl) ?_
      repeat (first
        | go_big_quiet_step ((fail))
        | quiet_step ((fail)))
      refine wpQuiet_nil ?_
      rintro _ ⟨q, rfl⟩
      obtain ⟨wq, hwq⟩ : ∃ W, W = q.w := ⟨_, rfl⟩
      have hbq : Below wr.heap.size wr wq := by rw [hwq]; exact q.h
      rw [← hwq]
      clear hwq q
      replace RE := hide ((unhide RE).keep hbq)
      replace RP := hide ((unhide RP).keep hbq)
      replace TC := hide ((unhide TC).trans ((unhide H).tch hbq))
      replace H := hide ((unhide H).keep hbq)
      replace QH := hide ((unhide QH).keep hbq)
      clear hbq
      clear x0 x1 x2 x3 x4 x5 x6 x7 y0 y3 y4 ne gw
      clear s1 wi
      have HC : ∀ {o : Nat} {y : Value}, (encP p)[o]? = some y → wq.cell? ⟨g, j * 7 + o, none⟩ = some y := fun {o y} e => (unhide QH).cells hj (by rw [unhide HP]; exact e)
      have v6 := HC (o := 6) (y := (.bool p.s.dead)) rfl
      have vg : g < wq.heap.size := ((unhide QH).row.lt g rfl).2
      clear HC
      have fg := (unhide QH).row.frozenAt (j * 7 + 6)
      obtain ⟨w7, hw7⟩ : ∃ W, W = wq.setCell ⟨g, j * 7 + 6, none⟩ (.bool true) := ⟨_, rfl⟩
      have HW := hide hw7.symm
      have EX : encP ⟨{ p.s with dead := true }, p.g, p.c⟩ = (encP p).set 6 (.bool true) := rfl
      have Q2 := hide (show SpAt w0 w7 b ka kl kc { x with now := t, list := x.list.set j { p.s with dead := true } } (.slice (some ⟨g, 0, none⟩) P.length vc) (P.set j ⟨{ p.s with dead := true }, p.g, p.c⟩) by
        rw [hw7]
        have q := (unhide QH).setX hj 6 (.bool true) { p.s with dead := true } (by omega) (by rw [unhide HP]; exact EX) (by rw [unhide HP])
        rw [unhide HP] at q
        exact q)
      have gb : w.heap.size ≠ g := fun e => by
        obtain ⟨C, hC⟩ := own_is (unhide QH).row (g := g) rfl
        have q := unhide RE
        unfold RowIs at q
        rw [e, hC] at q
        simp at q
      have gb2 : w.heap.size + 1 ≠ g := fun e => by
        obtain ⟨C, hC⟩ := own_is (unhide QH).row (g := g) rfl
        have q := unhide RP
        unfold RowIs at q
        rw [e, hC] at q
        simp at q
      have RE' := hide (show RowIs w7 w.heap.size _ 34 by rw [hw7]; exact (unhide RE).setOther _ gb)
      have RP' := hide (show RowIs w7 (w.heap.size + 1) rp0 31 by rw [hw7]; exact (unhide RP).setOther _ gb2)
      have TC' := hide (show Tch St b w w7 by rw [hw7]; exact (unhide TC).trans ((unhide QH).tchX _ _))
      clear hw7 EX
      go_upto_region 30 with fail
      refine wp_world (unhide HW) ?_
      clear HW RE RP TC H QH gb gb2 fg
      have RE := RE'
      have RP := RP'
      have TC := TC'
      have H := Q2
      clear RE' RP' TC' Q2
      clear v6 vg
      rw [unhide HX] at H
      go_wp2_with fail
      refine (sErr_c 4 _).mono ?_
      rintro e w9 ⟨rfl, hb9⟩
      replace RE := hide ((unhide RE).keep hb9)
      replace RP := hide ((unhide RP).keep hb9)
      replace TC := hide ((unhide TC).trans ((unhide H).tch hb9))
      replace H := hide ((unhide H).keep hb9)
      clear hb9
      have r0 := (unhide RP).at (o := 0) (v := .int .i64 0) rfl
      have f0 := (unhide RP).froz 0
      have r1 := (unhide RP).at (o := 1) (v := .string ⟨#[]⟩) rfl
      have f1 := (unhide RP).froz 1
      have r2 := (unhide RP).at (o := 2) (v := .string ⟨#[]⟩) rfl
      have f2 := (unhide RP).froz 2
      have r3 := (unhide RP).at (o := 3) (v := .int .i64 0) rfl
      have f3 := (unhide RP).froz 3
      have rz := (unhide RP).lt
      go_wp2_with fail
      try simp only [Exit.inBlock, Exit.then]
      have qe := fun (n f3 : Int) (f1 f2 : ByteArray) => SpAt.end4 (n := n) (f1 := f1) (f2 := f2) (f3 := f3) (unhide H) (unhide RP) (unhide TC) hbz
      exact bodyPost_ret (ret_reply (fn := Tryd.f47) rfl _ _ (w.heap.size + 1) (encR ⟨_, _, _, _⟩) rfl rfl (qe _ _ _ _).1) rfl ⟨rfl, (qe _ _ _ _).2⟩
set_option maxHeartbeats 8000000 in
theorem do_stolen2 {w0 : World} {b : Nat} {ka : Option Addr} {kl kc : Nat} {x : SsT} {v : Value} {P : List PxT} (k t : Int) (u d i : ByteArray) (w : World) (h : SpAt w0 w b ka kl kc x v P) (hu : u.size ≤ maxLen) (hd : d.size ≤ maxLen) (hi : i.size ≤ maxLen) (hOK : OkS x) (hf : fitE k t u d i = true) (hnt : x.now ≤ t) (hk1 : ¬ k = 1) (hk5 : ¬ k = 5) (j : Nat) (hj : j < P.length) (hfind : findI (idsL x.list) i = some j) (hlast : lastI P[j].s.ids = i) (hdev : ¬ P[j].s.device = d) :
    Calls Tryd.prog 47 #[.pointer (some ⟨b, 0, none⟩), .agg #[.int .i64 k, .int .i64 t, .string u, .string d, .string i]] w (DoQ w0 w b ka kl kc ({ x with now := t, list := x.list.set j { P[j].s with dead := true } }) (errR 4)) := by
  have HOL := h.lenP hOK
  have HOK : OkS { x with now := t } := ⟨fit_t hf, hOK.ln, hOK.gv, hOK.all, hOK.id, hOK.mo⟩
  have hbz := h.box.lt
  have nSE : ¬ St 34 := by unfold St; decide
  have nSR : ¬ St 31 := by unfold St; decide
  obtain ⟨W1, hW1⟩ : ∃ W, W = w.alloc (.cells #[.int .i64 k, .int .i64 t, .string u, .string d, .string i] 34) := ⟨_, rfl⟩
  obtain ⟨W2, hW2⟩ : ∃ W, W = W1.alloc (.cells #[.int .i64 0, .string ⟨#[]⟩, .string ⟨#[]⟩, .int .i64 0] 31) := ⟨_, rfl⟩
  have z1 : W1.heap.size = w.heap.size + 1 := by rw [hW1]; simp
  have b1 : Below w.heap.size w W1 := by rw [hW1]; exact bAl (Below.refl _ _) _
  have b2 : Below W1.heap.size W1 W2 := by rw [hW2]; exact bAl (Below.refl _ _) _
  have RE := hide ((show RowIs W1 w.heap.size #[.int .i64 k, .int .i64 t, .string u, .string d, .string i] 34 by rw [hW1]; exact RowIs.new _ _ _).keep b2)
  have RP := hide (show RowIs W2 (w.heap.size + 1) rp0 31 by rw [hW2, ← z1]; exact RowIs.new _ _ _)
  have H := hide ((h.keep b1).keep b2)
  have TC := hide (h.tch (bTr b1 b2))
  rw [hW1] at hW2
  have HW2 := hide hW2.symm
  have HLO := hide h.lo
  clear hW1 hW2 z1 b1 b2 h
  have qb := hide (sBad_any k t u d i W2 hu hd)
  rw [hf] at qb
  simp only [Bool.not_true, Bool.not_false] at qb
  have e0 := (unhide RE).at (o := 0) (v := .int .i64 k) rfl
  have e1 := (unhide RE).at (o := 1) (v := .int .i64 t) rfl
  have e2 := (unhide RE).at (o := 2) (v := .string u) rfl
  have e3 := (unhide RE).at (o := 3) (v := .string d) rfl
  have e4 := (unhide RE).at (o := 4) (v := .string i) rfl
  have ez := (unhide RE).lt
  go_enter Tryd.func47, Tryd.ntmps47
  go_upto_region 1 with fail
  refine wp_world (unhide HW2) ?_
  clear HW2
  go_wp2_with fail
  refine (unhide qb).mono ?_
  rintro e w3 ⟨rfl, hb3⟩
  replace RE := hide ((unhide RE).keep hb3)
  replace RP := hide ((unhide RP).keep hb3)
  replace TC := hide ((unhide TC).trans ((unhide H).tch hb3))
  replace H := hide ((unhide H).keep hb3)
  clear hb3
  clear e0 e1 e2 e3 e4 ez
  clear qb
  have c3 := (unhide H).box.at (o := 3) (v := .int .i64 x.now) rfl
  have cz := (unhide H).box.lt
  have nt : ¬ t < x.now := by omega
  have e0 := (unhide RE).at (o := 0) (v := .int .i64 k) rfl
  have e1 := (unhide RE).at (o := 1) (v := .int .i64 t) rfl
  have e2 := (unhide RE).at (o := 2) (v := .string u) rfl
  have e3 := (unhide RE).at (o := 3) (v := .string d) rfl
  have e4 := (unhide RE).at (o := 4) (v := .string i) rfl
  have ez := (unhide RE).lt
  go_upto_region 3 with fail
  go_region
  go_upto_region 5 with fail
  obtain ⟨w4, hw4⟩ : ∃ W, W = w3.drew := ⟨_, rfl⟩
  refine wp_world hw4.symm ?_
  have hb4 : Below w3.heap.size w3 w4 := by rw [hw4]; exact (Below.refl _ _).drew
  clear c3 cz nt hw4
  clear e0 e1 e2 e3 e4 ez
  replace RE := hide ((unhide RE).keep hb4)
  replace RP := hide ((unhide RP).keep hb4)
  replace TC := hide ((unhide TC).trans ((unhide H).tch hb4))
  replace H := hide ((unhide H).keep hb4)
  clear hb4
  have e0 := (unhide RE).at (o := 0) (v := .int .i64 k) rfl
  have e1 := (unhide RE).at (o := 1) (v := .int .i64 t) rfl
  have e2 := (unhide RE).at (o := 2) (v := .string u) rfl
  have e3 := (unhide RE).at (o := 3) (v := .string d) rfl
  have e4 := (unhide RE).at (o := 4) (v := .string i) rfl
  have ez := (unhide RE).lt
  have c3 := (unhide H).box.at (o := 3) (v := .int .i64 x.now) rfl
  have f3 := (unhide H).box.froz 3
  have cz := (unhide H).box.lt
  obtain ⟨w5, hw5⟩ : ∃ W, W = w4.setCell ⟨b, 3, none⟩ (.int .i64 t) := ⟨_, rfl⟩
  have HW5 := hide hw5.symm
  have z5 : w5.heap.size = w4.heap.size := by rw [hw5]; simp [World.setCell]
  have nb1 : w.heap.size ≠ b := by omega
  have nb2 : w.heap.size + 1 ≠ b := by omega
  have RE' := hide (show RowIs w5 w.heap.size _ 34 by rw [hw5]; exact (unhide RE).setOther _ nb1)
  have RP' := hide (show RowIs w5 (w.heap.size + 1) rp0 31 by rw [hw5]; exact (unhide RP).setOther _ nb2)
  have TC' := hide (show Tch St b w w5 by rw [hw5]; exact (unhide TC).trans ((unhide H).tchB _ _))
  have H' := hide (show SpAt w0 w5 b ka kl kc { x with now := t } v P by rw [hw5]; exact (unhide H).setBox 3 _ _ _ rfl rfl rfl)
  clear hw5
  go_upto_region 6 with fail
  refine wp_world (unhide HW5) ?_
  clear HW5 RE RP TC H c3 f3 cz
  clear e0 e1 e2 e3 e4 ez
  have RE := RE'
  have RP := RP'
  have TC := TC'
  have H := H'
  clear RE' RP' TC' H' z5 nb1 nb2
  obtain ⟨va, vc, rfl, hform⟩ := (unhide H).slice
  have HF := hide hform
  clear hform
  obtain ⟨n, hn⟩ : ∃ n, P.length = n := ⟨_, rfl⟩
  have n1000 : n ≤ 1000 := by rw [← hn]; exact HOL
  have HN := hide hn
  rw [hn] at H
  clear hn
  have nk1 : (k == 1) = false := by simpa using hk1
  have nk5 : (k == 5) = false := by simpa using hk5
  have e0 := (unhide RE).at (o := 0) (v := .int .i64 k) rfl
  have e1 := (unhide RE).at (o := 1) (v := .int .i64 t) rfl
  have e2 := (unhide RE).at (o := 2) (v := .string u) rfl
  have e3 := (unhide RE).at (o := 3) (v := .string d) rfl
  have e4 := (unhide RE).at (o := 4) (v := .string i) rfl
  have ez := (unhide RE).lt
  have c5 := (unhide H).box.at (o := 5) (v := .slice va n vc) rfl
  have cz := (unhide H).box.lt
  go_wp2_with fail
  go_loopw [7, 96] (fun a q w' => ∃ m : Nat, m ≤ n ∧ q = .int .i64 m ∧ a = .int .i64 (atV (findK (idsL x.list) i m)) ∧ Hid (Below w5.heap.size w5 w')) (fun _ q _ => n - (intOf q).toNat)
  case atStart => exact ⟨0, Nat.zero_le _, rfl, rfl, hide (Below.refl _ _)⟩
  case round =>
    obtain ⟨m, hm, rfl, rfl, hb⟩ := hrel
    have BB := hb
    clear hb
    by_cases hlt : m < n
    · have HR := hide ((unhide H).keep (unhide BB))
      obtain ⟨g, rfl, _, _⟩ := unhide HF (by rw [unhide HN]; omega)
      have hmP : m < P.length := by rw [unhide HN]; exact hlt
      obtain ⟨p, hp⟩ : ∃ p, P[m] = p := ⟨_, rfl⟩
      have HC : ∀ {j : Nat} {y : Value}, (encP p)[j]? = some y → wr.cell? ⟨g, m * 7 + j, none⟩ = some y := fun {j y} e => by
        have q := unhide HR
        rw [← unhide HN] at q
        exact q.cells hmP (by rw [hp]; exact e)
      have x0 := HC (j := 0) (y := .slice (some ⟨p.g, 0, none⟩) p.s.ids.length p.c) rfl
      rw [Nat.add_zero] at x0
      have x1 := HC (j := 1) (y := .string p.s.user) rfl
      have x2 := HC (j := 2) (y := .string p.s.device) rfl
      have x3 := HC (j := 3) (y := .int .i64 p.s.level) rfl
      have x4 := HC (j := 4) (y := .int .i64 p.s.login) rfl
      have x5 := HC (j := 5) (y := .int .i64 p.s.last) rfl
      have x6 := HC (j := 6) (y := .bool p.s.dead) rfl
      have IDS := hide (own_slS (by have q := (unhide HR).ids m hmP; rw [hp] at q; exact q))
      have IA := hide (show (idsL x.list).getD m [] = p.s.ids by rw [← hp]; exact (unhide H).idsAt hmP)
      have ILN : p.s.ids.length ≤ 1000 := by
        have q := ((unhide H).okP HOK hmP).il
        rw [hp] at q
        exact Nat.le_trans q HOK.gv
      have RER := hide ((unhide RE).keep (unhide BB))
      clear HC hp
      generalize p.s.user = pu at *
      generalize p.s.device = pd at *
      generalize p.s.level = pl at *
      generalize p.s.login = pg at *
      generalize p.s.last = pa at *
      generalize p.s.dead = pe at *
      generalize p.s.ids = pi at *
      obtain ⟨pn, hpn⟩ : ∃ q, pi.length = q := ⟨_, rfl⟩
      rw [hpn] at x0 ILN
      have PN := hide hpn
      rw [hpn] at IDS
      clear hpn
      have re4 := (unhide RER).at (o := 4) (v := .string i) rfl
      have rez := (unhide RER).lt
      have AN := hide (fun (B : Bool) (hB : B = true ↔ i ∈ pi) => atV_next (L := idsL x.list) (y := i) (k := m) B (by rw [unhide IA]; exact hB))
      go_wp2_with fail
      refine (V.l3Has_anyY _ pn p.c pi i _ (by omega) ((unhide IDS).keep (bAl (Below.refl _ _) _))).mono ?_
      rintro e wx ⟨⟨vb, rfl, hvb⟩, rfl⟩
      have HVB := hide (unhide AN vb hvb)
      clear AN hvb x0 x1 x2 x3 x4 x5 x6
      have BN := hide (bTr (unhide BB) (bAl (Below.refl _ _) (.cells #[.slice (some ⟨p.g, 0, none⟩) pn p.c, .string pu, .string pd, .int .i64 pl, .int .i64 pg, .int .i64 pa, .bool pe] 79)))
      cases vb
      all_goals
        go_wp2_with fail
        exact ⟨⟨m + 1, by omega, by go_num, by rw [unhide HVB]; simp, BN⟩, by simp [intOf]; omega⟩
    · have em : m = n := by omega
      subst em
      have HR := hide ((unhide H).keep (unhide BB))
      replace RE := hide ((unhide RE).keep (unhide BB))
      replace RP := hide ((unhide RP).keep (unhide BB))
      replace TC := hide ((unhide TC).trans ((unhide H).tch (unhide BB)))
      clear H BB
      have H := HR
      clear HR
      obtain ⟨AT, hAT⟩ : ∃ q, findK (idsL x.list) i m = q := ⟨_, rfl⟩
      have hfi : findI (idsL x.list) i = AT := by unfold findI; rw [(unhide H).idsLen, unhide HN]; exact hAT
      rw [hAT]
      clear hAT e0 e1 e2 e3 e4 ez c5 cz
      obtain rfl : AT = some j := hfi.symm.trans hfind
      simp only [atV]
      have hjm : j < m := by rw [← unhide HN]; exact hj
      have nj : ¬ (j : Int) < 0 := by omega
      obtain ⟨g, rfl, hgz, hbg⟩ := unhide HF (by omega)
      obtain ⟨p, hp⟩ : ∃ p, P[j] = p := ⟨_, rfl⟩
      rw [hp] at hlast hdev
      have HP := hide hp
      have HX := hide (show { x with now := t, list := x.list.set j { p.s with dead := true } } = { x with now := t, list := x.list.set j { P[j].s with dead := true } } by rw [hp])
      have OP := hide (show OkX x.key x.given p.s by have q := (unhide H).okP HOK hj; rw [hp] at q; exact q)
      obtain ⟨pn, hpn⟩ : ∃ q, p.s.ids.length = q + 1 := ⟨p.s.ids.length - 1, by have := List.length_pos_iff.2 (unhide OP).ne; omega⟩
      have HPN := hide hpn
      have pn1000 : pn ≤ 1000 := by have q := (unhide OP).il; have q2 := hOK.gv; omega
      have QH := hide (show SpAt w0 wr b ka kl kc { x with now := t } (.slice (some ⟨g, 0, none⟩) P.length vc) P by rw [unhide HN]; exact unhide H)
      have HC : ∀ {o : Nat} {y : Value}, (encP p)[o]? = some y → wr.cell? ⟨g, j * 7 + o, none⟩ = some y := fun {o y} e => (unhide QH).cells hj (by rw [hp]; exact e)
      have gw : g < wr.heap.size := ((unhide QH).row.lt g rfl).2
      have x0 := kept_cell (W := wr) (p := ⟨g, j * 7 + 0, none⟩) gw (HC (o := 0) (y := .slice (some ⟨p.g, 0, none⟩) p.s.ids.length p.c) rfl)
      rw [Nat.add_zero, hpn] at x0
      have x1 := kept_cell (W := wr) (p := ⟨g, j * 7 + 1, none⟩) gw (HC (o := 1) (y := .string p.s.user) rfl)
      have x2 := kept_cell (W := wr) (p := ⟨g, j * 7 + 2, none⟩) gw (HC (o := 2) (y := .string p.s.device) rfl)
      have x3 := kept_cell (W := wr) (p := ⟨g, j * 7 + 3, none⟩) gw (HC (o := 3) (y := .int .i64 p.s.level) rfl)
      have x4 := kept_cell (W := wr) (p := ⟨g, j * 7 + 4, none⟩) gw (HC (o := 4) (y := .int .i64 p.s.login) rfl)
      have x5 := kept_cell (W := wr) (p := ⟨g, j * 7 + 5, none⟩) gw (HC (o := 5) (y := .int .i64 p.s.last) rfl)
      have x6 := kept_cell (W := wr) (p := ⟨g, j * 7 + 6, none⟩) gw (HC (o := 6) (y := .bool p.s.dead) rfl)
      have id0 := (unhide QH).ids j hj
      rw [hp] at id0
      have x7 := kept_cell (W := wr) (p := ⟨p.g, pn, none⟩) ((id0.lt p.g rfl).2) (by
        rw [id0.cellAt pn (by omega)]
        have q := lastI_get (unhide OP).ne
        rw [hpn, Nat.add_sub_cancel] at q
        show (p.s.ids.map Value.string)[pn]? = some (.string (lastI p.s.ids))
        rw [List.getElem?_map, q]; rfl)
      have y3 := kept_cell (W := wr) (unhide RE).lt ((unhide RE).at (o := 3) (v := .string d) rfl)
      have y4 := kept_cell (W := wr) (unhide RE).lt ((unhide RE).at (o := 4) (v := .string i) rfl)
      have y0 := kept_cell (W := wr) (unhide RE).lt ((unhide RE).at (o := 0) (v := .int .i64 k) rfl)
      have c5 := (unhide H).box.at (o := 5) (v := .slice (some ⟨g, 0, none⟩) m vc) rfl
      have cz := (unhide H).box.lt
      have ne : Nonempty (Kept wr) := ⟨⟨wr, Below.refl _ _⟩⟩
      have wi : IntKind.i64.wrap (((pn + 1 : Nat) : Int) - 1) = (pn : Int) := by rw [IntKind.wrap_i64]; omega
      clear HC id0 hp hpn
      go_upto_region 28 with fail
      clear c5 cz
      rw [hlast] at x7
      have s1 := V.str_eqY i
      have s2 := V.str_neY hdev
      refine wp_region_kept (by kernel_rfl) (by kernel_rfl) ?_
      repeat (first
        | go_big_quiet_step ((fail))
        | quiet_step ((fail)))
      refine wpQuiet_nil ?_
      rintro _ ⟨q, rfl⟩
      obtain ⟨wq, hwq⟩ : ∃ W, W = q.w := ⟨_, rfl⟩
      have hbq : Below wr.heap.size wr wq := by rw [hwq]; exact q.h
      rw [← hwq]
      clear hwq q
      replace RE := hide ((unhide RE).keep hbq)
      replace RP := hide ((unhide RP).keep hbq)
      replace TC := hide ((unhide TC).trans ((unhide H).tch hbq))
      replace H := hide ((unhide H).keep hbq)
      replace QH := hide ((unhide QH).keep hbq)
      clear hbq
      clear x0 x1 x2 x3 x4 x5 x6 x7 y0 y3 y4 ne gw
      clear s1 wi
      clear s2
      have HC : ∀ {o : Nat} {y : Value}, (encP p)[o]? = some y → wq.cell? ⟨g, j * 7 + o, none⟩ = some y := fun {o y} e => (unhide QH).cells hj (by rw [unhide HP]; exact e)
      have v6 := HC (o := 6) (y := (.bool p.s.dead)) rfl
      have vg : g < wq.heap.size := ((unhide QH).row.lt g rfl).2
      clear HC
      have fg := (unhide QH).row.frozenAt (j * 7 + 6)
      obtain ⟨w7, hw7⟩ : ∃ W, W = wq.setCell ⟨g, j * 7 + 6, none⟩ (.bool true) := ⟨_, rfl⟩
      have HW := hide hw7.symm
      have EX : encP ⟨{ p.s with dead := true }, p.g, p.c⟩ = (encP p).set 6 (.bool true) := rfl
      have Q2 := hide (show SpAt w0 w7 b ka kl kc { x with now := t, list := x.list.set j { p.s with dead := true } } (.slice (some ⟨g, 0, none⟩) P.length vc) (P.set j ⟨{ p.s with dead := true }, p.g, p.c⟩) by
        rw [hw7]
        have q := (unhide QH).setX hj 6 (.bool true) { p.s with dead := true } (by omega) (by rw [unhide HP]; exact EX) (by rw [unhide HP])
        rw [unhide HP] at q
        exact q)
      have gb : w.heap.size ≠ g := fun e => by
        obtain ⟨C, hC⟩ := own_is (unhide QH).row (g := g) rfl
        have q := unhide RE
        unfold RowIs at q
        rw [e, hC] at q
        simp at q
      have gb2 : w.heap.size + 1 ≠ g := fun e => by
        obtain ⟨C, hC⟩ := own_is (unhide QH).row (g := g) rfl
        have q := unhide RP
        unfold RowIs at q
        rw [e, hC] at q
        simp at q
      have RE' := hide (show RowIs w7 w.heap.size _ 34 by rw [hw7]; exact (unhide RE).setOther _ gb)
      have RP' := hide (show RowIs w7 (w.heap.size + 1) rp0 31 by rw [hw7]; exact (unhide RP).setOther _ gb2)
      have TC' := hide (show Tch St b w w7 by rw [hw7]; exact (unhide TC).trans ((unhide QH).tchX _ _))
      clear hw7 EX
      go_upto_region 30 with fail
      refine wp_world (unhide HW) ?_
      clear HW RE RP TC H QH gb gb2 fg
      have RE := RE'
      have RP := RP'
      have TC := TC'
      have H := Q2
      clear RE' RP' TC' Q2
      clear v6 vg
      rw [unhide HX] at H
      go_wp2_with fail
      refine (sErr_c 4 _).mono ?_
      rintro e w9 ⟨rfl, hb9⟩
      replace RE := hide ((unhide RE).keep hb9)
      replace RP := hide ((unhide RP).keep hb9)
      replace TC := hide ((unhide TC).trans ((unhide H).tch hb9))
      replace H := hide ((unhide H).keep hb9)
      clear hb9
      have r0 := (unhide RP).at (o := 0) (v := .int .i64 0) rfl
      have f0 := (unhide RP).froz 0
      have r1 := (unhide RP).at (o := 1) (v := .string ⟨#[]⟩) rfl
      have f1 := (unhide RP).froz 1
      have r2 := (unhide RP).at (o := 2) (v := .string ⟨#[]⟩) rfl
      have f2 := (unhide RP).froz 2
      have r3 := (unhide RP).at (o := 3) (v := .int .i64 0) rfl
      have f3 := (unhide RP).froz 3
      have rz := (unhide RP).lt
      go_wp2_with fail
      try simp only [Exit.inBlock, Exit.then]
      have qe := fun (n f3 : Int) (f1 f2 : ByteArray) => SpAt.end4 (n := n) (f1 := f1) (f2 := f2) (f3 := f3) (unhide H) (unhide RP) (unhide TC) hbz
      exact bodyPost_ret (ret_reply (fn := Tryd.f47) rfl _ _ (w.heap.size + 1) (encR ⟨_, _, _, _⟩) rfl rfl (qe _ _ _ _).1) rfl ⟨rfl, (qe _ _ _ _).2⟩
set_option maxHeartbeats 8000000 in
theorem do_over {w0 : World} {b : Nat} {ka : Option Addr} {kl kc : Nat} {x : SsT} {v : Value} {P : List PxT} (k t : Int) (u d i : ByteArray) (w : World) (h : SpAt w0 w b ka kl kc x v P) (hu : u.size ≤ maxLen) (hd : d.size ≤ maxLen) (hi : i.size ≤ maxLen) (hOK : OkS x) (hf : fitE k t u d i = true) (hnt : x.now ≤ t) (hk1 : ¬ k = 1) (hk5 : ¬ k = 5) (j : Nat) (hj : j < P.length) (hfind : findI (idsL x.list) i = some j) (hdev : P[j].s.device = d) (hlast : lastI P[j].s.ids = i) (hdead : P[j].s.dead = false) (hov : overS x P[j].s t = true) :
    Calls Tryd.prog 47 #[.pointer (some ⟨b, 0, none⟩), .agg #[.int .i64 k, .int .i64 t, .string u, .string d, .string i]] w (DoQ w0 w b ka kl kc ({ x with now := t }) (errR 6)) := by
  have HOL := h.lenP hOK
  have HOK : OkS { x with now := t } := ⟨fit_t hf, hOK.ln, hOK.gv, hOK.all, hOK.id, hOK.mo⟩
  have hbz := h.box.lt
  have nSE : ¬ St 34 := by unfold St; decide
  have nSR : ¬ St 31 := by unfold St; decide
  obtain ⟨W1, hW1⟩ : ∃ W, W = w.alloc (.cells #[.int .i64 k, .int .i64 t, .string u, .string d, .string i] 34) := ⟨_, rfl⟩
  obtain ⟨W2, hW2⟩ : ∃ W, W = W1.alloc (.cells #[.int .i64 0, .string ⟨#[]⟩, .string ⟨#[]⟩, .int .i64 0] 31) := ⟨_, rfl⟩
  have z1 : W1.heap.size = w.heap.size + 1 := by rw [hW1]; simp
  have b1 : Below w.heap.size w W1 := by rw [hW1]; exact bAl (Below.refl _ _) _
  have b2 : Below W1.heap.size W1 W2 := by rw [hW2]; exact bAl (Below.refl _ _) _
  have RE := hide ((show RowIs W1 w.heap.size #[.int .i64 k, .int .i64 t, .string u, .string d, .string i] 34 by rw [hW1]; exact RowIs.new _ _ _).keep b2)
  have RP := hide (show RowIs W2 (w.heap.size + 1) rp0 31 by rw [hW2, ← z1]; exact RowIs.new _ _ _)
  have H := hide ((h.keep b1).keep b2)
  have TC := hide (h.tch (bTr b1 b2))
  rw [hW1] at hW2
  have HW2 := hide hW2.symm
  have HLO := hide h.lo
  clear hW1 hW2 z1 b1 b2 h
  have qb := hide (sBad_any k t u d i W2 hu hd)
  rw [hf] at qb
  simp only [Bool.not_true, Bool.not_false] at qb
  have e0 := (unhide RE).at (o := 0) (v := .int .i64 k) rfl
  have e1 := (unhide RE).at (o := 1) (v := .int .i64 t) rfl
  have e2 := (unhide RE).at (o := 2) (v := .string u) rfl
  have e3 := (unhide RE).at (o := 3) (v := .string d) rfl
  have e4 := (unhide RE).at (o := 4) (v := .string i) rfl
  have ez := (unhide RE).lt
  go_enter Tryd.func47, Tryd.ntmps47
  go_upto_region 1 with fail
  refine wp_world (unhide HW2) ?_
  clear HW2
  go_wp2_with fail
  refine (unhide qb).mono ?_
  rintro e w3 ⟨rfl, hb3⟩
  replace RE := hide ((unhide RE).keep hb3)
  replace RP := hide ((unhide RP).keep hb3)
  replace TC := hide ((unhide TC).trans ((unhide H).tch hb3))
  replace H := hide ((unhide H).keep hb3)
  clear hb3
  clear e0 e1 e2 e3 e4 ez
  clear qb
  have c3 := (unhide H).box.at (o := 3) (v := .int .i64 x.now) rfl
  have cz := (unhide H).box.lt
  have nt : ¬ t < x.now := by omega
  have e0 := (unhide RE).at (o := 0) (v := .int .i64 k) rfl
  have e1 := (unhide RE).at (o := 1) (v := .int .i64 t) rfl
  have e2 := (unhide RE).at (o := 2) (v := .string u) rfl
  have e3 := (unhide RE).at (o := 3) (v := .string d) rfl
  have e4 := (unhide RE).at (o := 4) (v := .string i) rfl
  have ez := (unhide RE).lt
  go_upto_region 3 with fail
  go_region
  go_upto_region 5 with fail
  obtain ⟨w4, hw4⟩ : ∃ W, W = w3.drew := ⟨_, rfl⟩
  refine wp_world hw4.symm ?_
  have hb4 : Below w3.heap.size w3 w4 := by rw [hw4]; exact (Below.refl _ _).drew
  clear c3 cz nt hw4
  clear e0 e1 e2 e3 e4 ez
  replace RE := hide ((unhide RE).keep hb4)
  replace RP := hide ((unhide RP).keep hb4)
  replace TC := hide ((unhide TC).trans ((unhide H).tch hb4))
  replace H := hide ((unhide H).keep hb4)
  clear hb4
  have e0 := (unhide RE).at (o := 0) (v := .int .i64 k) rfl
  have e1 := (unhide RE).at (o := 1) (v := .int .i64 t) rfl
  have e2 := (unhide RE).at (o := 2) (v := .string u) rfl
  have e3 := (unhide RE).at (o := 3) (v := .string d) rfl
  have e4 := (unhide RE).at (o := 4) (v := .string i) rfl
  have ez := (unhide RE).lt
  have c3 := (unhide H).box.at (o := 3) (v := .int .i64 x.now) rfl
  have f3 := (unhide H).box.froz 3
  have cz := (unhide H).box.lt
  obtain ⟨w5, hw5⟩ : ∃ W, W = w4.setCell ⟨b, 3, none⟩ (.int .i64 t) := ⟨_, rfl⟩
  have HW5 := hide hw5.symm
  have z5 : w5.heap.size = w4.heap.size := by rw [hw5]; simp [World.setCell]
  have nb1 : w.heap.size ≠ b := by omega
  have nb2 : w.heap.size + 1 ≠ b := by omega
  have RE' := hide (show RowIs w5 w.heap.size _ 34 by rw [hw5]; exact (unhide RE).setOther _ nb1)
  have RP' := hide (show RowIs w5 (w.heap.size + 1) rp0 31 by rw [hw5]; exact (unhide RP).setOther _ nb2)
  have TC' := hide (show Tch St b w w5 by rw [hw5]; exact (unhide TC).trans ((unhide H).tchB _ _))
  have H' := hide (show SpAt w0 w5 b ka kl kc { x with now := t } v P by rw [hw5]; exact (unhide H).setBox 3 _ _ _ rfl rfl rfl)
  clear hw5
  go_upto_region 6 with fail
  refine wp_world (unhide HW5) ?_
  clear HW5 RE RP TC H c3 f3 cz
  clear e0 e1 e2 e3 e4 ez
  have RE := RE'
  have RP := RP'
  have TC := TC'
  have H := H'
  clear RE' RP' TC' H' z5 nb1 nb2
  obtain ⟨va, vc, rfl, hform⟩ := (unhide H).slice
  have HF := hide hform
  clear hform
  obtain ⟨n, hn⟩ : ∃ n, P.length = n := ⟨_, rfl⟩
  have n1000 : n ≤ 1000 := by rw [← hn]; exact HOL
  have HN := hide hn
  rw [hn] at H
  clear hn
  have nk1 : (k == 1) = false := by simpa using hk1
  have nk5 : (k == 5) = false := by simpa using hk5
  have e0 := (unhide RE).at (o := 0) (v := .int .i64 k) rfl
  have e1 := (unhide RE).at (o := 1) (v := .int .i64 t) rfl
  have e2 := (unhide RE).at (o := 2) (v := .string u) rfl
  have e3 := (unhide RE).at (o := 3) (v := .string d) rfl
  have e4 := (unhide RE).at (o := 4) (v := .string i) rfl
  have ez := (unhide RE).lt
  have c5 := (unhide H).box.at (o := 5) (v := .slice va n vc) rfl
  have cz := (unhide H).box.lt
  go_wp2_with fail
  go_loopw [7, 96] (fun a q w' => ∃ m : Nat, m ≤ n ∧ q = .int .i64 m ∧ a = .int .i64 (atV (findK (idsL x.list) i m)) ∧ Hid (Below w5.heap.size w5 w')) (fun _ q _ => n - (intOf q).toNat)
  case atStart => exact ⟨0, Nat.zero_le _, rfl, rfl, hide (Below.refl _ _)⟩
  case round =>
    obtain ⟨m, hm, rfl, rfl, hb⟩ := hrel
    have BB := hb
    clear hb
    by_cases hlt : m < n
    · have HR := hide ((unhide H).keep (unhide BB))
      obtain ⟨g, rfl, _, _⟩ := unhide HF (by rw [unhide HN]; omega)
      have hmP : m < P.length := by rw [unhide HN]; exact hlt
      obtain ⟨p, hp⟩ : ∃ p, P[m] = p := ⟨_, rfl⟩
      have HC : ∀ {j : Nat} {y : Value}, (encP p)[j]? = some y → wr.cell? ⟨g, m * 7 + j, none⟩ = some y := fun {j y} e => by
        have q := unhide HR
        rw [← unhide HN] at q
        exact q.cells hmP (by rw [hp]; exact e)
      have x0 := HC (j := 0) (y := .slice (some ⟨p.g, 0, none⟩) p.s.ids.length p.c) rfl
      rw [Nat.add_zero] at x0
      have x1 := HC (j := 1) (y := .string p.s.user) rfl
      have x2 := HC (j := 2) (y := .string p.s.device) rfl
      have x3 := HC (j := 3) (y := .int .i64 p.s.level) rfl
      have x4 := HC (j := 4) (y := .int .i64 p.s.login) rfl
      have x5 := HC (j := 5) (y := .int .i64 p.s.last) rfl
      have x6 := HC (j := 6) (y := .bool p.s.dead) rfl
      have IDS := hide (own_slS (by have q := (unhide HR).ids m hmP; rw [hp] at q; exact q))
      have IA := hide (show (idsL x.list).getD m [] = p.s.ids by rw [← hp]; exact (unhide H).idsAt hmP)
      have ILN : p.s.ids.length ≤ 1000 := by
        have q := ((unhide H).okP HOK hmP).il
        rw [hp] at q
        exact Nat.le_trans q HOK.gv
      have RER := hide ((unhide RE).keep (unhide BB))
      clear HC hp
      generalize p.s.user = pu at *
      generalize p.s.device = pd at *
      generalize p.s.level = pl at *
      generalize p.s.login = pg at *
      generalize p.s.last = pa at *
      generalize p.s.dead = pe at *
      generalize p.s.ids = pi at *
      obtain ⟨pn, hpn⟩ : ∃ q, pi.length = q := ⟨_, rfl⟩
      rw [hpn] at x0 ILN
      have PN := hide hpn
      rw [hpn] at IDS
      clear hpn
      have re4 := (unhide RER).at (o := 4) (v := .string i) rfl
      have rez := (unhide RER).lt
      have AN := hide (fun (B : Bool) (hB : B = true ↔ i ∈ pi) => atV_next (L := idsL x.list) (y := i) (k := m) B (by rw [unhide IA]; exact hB))
      go_wp2_with fail
      refine (V.l3Has_anyY _ pn p.c pi i _ (by omega) ((unhide IDS).keep (bAl (Below.refl _ _) _))).mono ?_
      rintro e wx ⟨⟨vb, rfl, hvb⟩, rfl⟩
      have HVB := hide (unhide AN vb hvb)
      clear AN hvb x0 x1 x2 x3 x4 x5 x6
      have BN := hide (bTr (unhide BB) (bAl (Below.refl _ _) (.cells #[.slice (some ⟨p.g, 0, none⟩) pn p.c, .string pu, .string pd, .int .i64 pl, .int .i64 pg, .int .i64 pa, .bool pe] 79)))
      cases vb
      all_goals
        go_wp2_with fail
        exact ⟨⟨m + 1, by omega, by go_num, by rw [unhide HVB]; simp, BN⟩, by simp [intOf]; omega⟩
    · have em : m = n := by omega
      subst em
      have HR := hide ((unhide H).keep (unhide BB))
      replace RE := hide ((unhide RE).keep (unhide BB))
      replace RP := hide ((unhide RP).keep (unhide BB))
      replace TC := hide ((unhide TC).trans ((unhide H).tch (unhide BB)))
      clear H BB
      have H := HR
      clear HR
      obtain ⟨AT, hAT⟩ : ∃ q, findK (idsL x.list) i m = q := ⟨_, rfl⟩
      have hfi : findI (idsL x.list) i = AT := by unfold findI; rw [(unhide H).idsLen, unhide HN]; exact hAT
      rw [hAT]
      clear hAT e0 e1 e2 e3 e4 ez c5 cz
      obtain rfl : AT = some j := hfi.symm.trans hfind
      simp only [atV]
      have hjm : j < m := by rw [← unhide HN]; exact hj
      have nj : ¬ (j : Int) < 0 := by omega
      obtain ⟨g, rfl, hgz, hbg⟩ := unhide HF (by omega)
      obtain ⟨p, hp⟩ : ∃ p, P[j] = p := ⟨_, rfl⟩
      rw [hp] at hlast hdev hdead hov
      have HP := hide hp
      have OP := hide (show OkX x.key x.given p.s by have q := (unhide H).okP HOK hj; rw [hp] at q; exact q)
      obtain ⟨pn, hpn⟩ : ∃ q, p.s.ids.length = q + 1 := ⟨p.s.ids.length - 1, by have := List.length_pos_iff.2 (unhide OP).ne; omega⟩
      have HPN := hide hpn
      have pn1000 : pn ≤ 1000 := by have q := (unhide OP).il; have q2 := hOK.gv; omega
      have QH := hide (show SpAt w0 wr b ka kl kc { x with now := t } (.slice (some ⟨g, 0, none⟩) P.length vc) P by rw [unhide HN]; exact unhide H)
      have HC : ∀ {o : Nat} {y : Value}, (encP p)[o]? = some y → wr.cell? ⟨g, j * 7 + o, none⟩ = some y := fun {o y} e => (unhide QH).cells hj (by rw [hp]; exact e)
      have gw : g < wr.heap.size := ((unhide QH).row.lt g rfl).2
      have x0 := kept_cell (W := wr) (p := ⟨g, j * 7 + 0, none⟩) gw (HC (o := 0) (y := .slice (some ⟨p.g, 0, none⟩) p.s.ids.length p.c) rfl)
      rw [Nat.add_zero, hpn] at x0
      have x1 := kept_cell (W := wr) (p := ⟨g, j * 7 + 1, none⟩) gw (HC (o := 1) (y := .string p.s.user) rfl)
      have x2 := kept_cell (W := wr) (p := ⟨g, j * 7 + 2, none⟩) gw (HC (o := 2) (y := .string p.s.device) rfl)
      have x3 := kept_cell (W := wr) (p := ⟨g, j * 7 + 3, none⟩) gw (HC (o := 3) (y := .int .i64 p.s.level) rfl)
      have x4 := kept_cell (W := wr) (p := ⟨g, j * 7 + 4, none⟩) gw (HC (o := 4) (y := .int .i64 p.s.login) rfl)
      have x5 := kept_cell (W := wr) (p := ⟨g, j * 7 + 5, none⟩) gw (HC (o := 5) (y := .int .i64 p.s.last) rfl)
      have x6 := kept_cell (W := wr) (p := ⟨g, j * 7 + 6, none⟩) gw (HC (o := 6) (y := .bool p.s.dead) rfl)
      have id0 := (unhide QH).ids j hj
      rw [hp] at id0
      have x7 := kept_cell (W := wr) (p := ⟨p.g, pn, none⟩) ((id0.lt p.g rfl).2) (by
        rw [id0.cellAt pn (by omega)]
        have q := lastI_get (unhide OP).ne
        rw [hpn, Nat.add_sub_cancel] at q
        show (p.s.ids.map Value.string)[pn]? = some (.string (lastI p.s.ids))
        rw [List.getElem?_map, q]; rfl)
      have y3 := kept_cell (W := wr) (unhide RE).lt ((unhide RE).at (o := 3) (v := .string d) rfl)
      have y4 := kept_cell (W := wr) (unhide RE).lt ((unhide RE).at (o := 4) (v := .string i) rfl)
      have y0 := kept_cell (W := wr) (unhide RE).lt ((unhide RE).at (o := 0) (v := .int .i64 k) rfl)
      have c5 := (unhide H).box.at (o := 5) (v := .slice (some ⟨g, 0, none⟩) m vc) rfl
      have cz := (unhide H).box.lt
      have ne : Nonempty (Kept wr) := ⟨⟨wr, Below.refl _ _⟩⟩
      have wi : IntKind.i64.wrap (((pn + 1 : Nat) : Int) - 1) = (pn : Int) := by rw [IntKind.wrap_i64]; omega
      clear HC id0 hp hpn
      go_upto_region 28 with fail
      clear c5 cz
      rw [hlast] at x7
      rw [hdev] at x2
      have s1 := V.str_eqY i
      have s2 := V.str_eqY d
      refine wp_region_kept (by kernel_rfl) (by kernel_rfl) ?_
      repeat (first
        | go_big_quiet_step ((fail))
        | quiet_step ((fail)))
      refine wpQuiet_nil ?_
      rintro _ ⟨q, rfl⟩
      obtain ⟨wq, hwq⟩ : ∃ W, W = q.w := ⟨_, rfl⟩
      have hbq : Below wr.heap.size wr wq := by rw [hwq]; exact q.h
      rw [← hwq]
      clear hwq q
      replace RE := hide ((unhide RE).keep hbq)
      replace RP := hide ((unhide RP).keep hbq)
      replace TC := hide ((unhide TC).trans ((unhide H).tch hbq))
      replace H := hide ((unhide H).keep hbq)
      replace QH := hide ((unhide QH).keep hbq)
      clear hbq
      clear x0 x1 x2 x3 x4 x5 x6 x7 y0 y3 y4 ne gw
      clear s1 s2 wi
      have HC : ∀ {o : Nat} {y : Value}, (encP p)[o]? = some y → wq.cell? ⟨g, j * 7 + o, none⟩ = some y := fun {o y} e => (unhide QH).cells hj (by rw [unhide HP]; exact e)
      have v0 := HC (o := 0) (y := (.slice (some ⟨p.g, 0, none⟩) p.s.ids.length p.c)) rfl
      rw [Nat.add_zero, unhide HPN] at v0
      have v1 := HC (o := 1) (y := (.string p.s.user)) rfl
      have v2 := HC (o := 2) (y := (.string p.s.device)) rfl
      have v3 := HC (o := 3) (y := (.int .i64 p.s.level)) rfl
      have v4 := HC (o := 4) (y := (.int .i64 p.s.login)) rfl
      have v5 := HC (o := 5) (y := (.int .i64 p.s.last)) rfl
      have v6 := HC (o := 6) (y := (.bool p.s.dead)) rfl
      have vg : g < wq.heap.size := ((unhide QH).row.lt g rfl).2
      clear HC
      rw [hdead] at v6
      rw [hdev] at v2
      have hkx := (unhide OP)
      have xx0 := kept_cell (W := wq) (p := ⟨g, j * 7, none⟩) vg v0
      have xx1 := kept_cell (W := wq) (p := ⟨g, j * 7 + 1, none⟩) vg v1
      have xx2 := kept_cell (W := wq) (p := ⟨g, j * 7 + 2, none⟩) vg v2
      have xx3 := kept_cell (W := wq) (p := ⟨g, j * 7 + 3, none⟩) vg v3
      have xx4 := kept_cell (W := wq) (p := ⟨g, j * 7 + 4, none⟩) vg v4
      have xx5 := kept_cell (W := wq) (p := ⟨g, j * 7 + 5, none⟩) vg v5
      have xx6 := kept_cell (W := wq) (p := ⟨g, j * 7 + 6, none⟩) vg v6
      have cc3 := kept_cell (W := wq) (unhide H).box.lt ((unhide H).box.at (o := 3) (v := .int .i64 t) rfl)
      have ne : Nonempty (Kept wq) := ⟨⟨wq, Below.refl _ _⟩⟩
      have qo := hide (fun (q : Kept wq) => show Calls Tryd.prog 32 #[.pointer (some ⟨b, 0, none⟩), .agg #[.slice (some ⟨p.g, 0, none⟩) (pn + 1) p.c, .string p.s.user, .string d, .int .i64 p.s.level, .int .i64 p.s.login, .int .i64 p.s.last, .bool false], .int .i64 t] q.w (fun e w' => e = .returned (.bool true) ∧ Below q.w.heap.size q.w w') from by
        have q1 := sOver_any b (pn + 1) p.c (some ⟨p.g, 0, none⟩) ka kl kc { x with now := t } p.s _ t q.w ((unhide H).box.keep q.h) hkx.lg hkx.la ⟨(by have q5 := hOK.id.1; show (0 : Int) ≤ x.idle; omega), hOK.id.2⟩ ⟨(by have q5 := hOK.mo.1; show (0 : Int) ≤ x.most; omega), hOK.mo.2⟩
        unfold xV at q1
        rw [show overS { x with now := t } p.s t = overS x p.s t from rfl, hov, hdead, hdev] at q1
        exact q1)
      clear hkx
      go_upto_region 33 with fail
      refine wp_region_kept (by kernel_rfl) (by kernel_rfl) ?_
      repeat (first
        | go_big_quiet_step ((go_at_call 32; with_reducible exact kept_call (unhide qo _)))
        | quiet_step ((go_at_call 32; with_reducible exact kept_call (unhide qo _))))
      refine wpQuiet_nil ?_
      rintro _ ⟨q, rfl⟩
      obtain ⟨wo, hwo⟩ : ∃ W, W = q.w := ⟨_, rfl⟩
      have hbo : Below wq.heap.size wq wo := by rw [hwo]; exact q.h
      rw [← hwo]
      clear hwo q qo xx0 xx1 xx2 xx3 xx4 xx5 xx6 cc3 ne v0 v1 v2 v3 v4 v5 v6 vg
      replace RE := hide ((unhide RE).keep hbo)
      replace RP := hide ((unhide RP).keep hbo)
      replace TC := hide ((unhide TC).trans ((unhide H).tch hbo))
      replace H := hide ((unhide H).keep hbo)
      replace QH := hide ((unhide QH).keep hbo)
      clear hbo
      go_wp2_with fail
      refine (sErr_c 6 _).mono ?_
      rintro e w9 ⟨rfl, hb9⟩
      replace RE := hide ((unhide RE).keep hb9)
      replace RP := hide ((unhide RP).keep hb9)
      replace TC := hide ((unhide TC).trans ((unhide H).tch hb9))
      replace H := hide ((unhide H).keep hb9)
      clear hb9
      have r0 := (unhide RP).at (o := 0) (v := .int .i64 0) rfl
      have f0 := (unhide RP).froz 0
      have r1 := (unhide RP).at (o := 1) (v := .string ⟨#[]⟩) rfl
      have f1 := (unhide RP).froz 1
      have r2 := (unhide RP).at (o := 2) (v := .string ⟨#[]⟩) rfl
      have f2 := (unhide RP).froz 2
      have r3 := (unhide RP).at (o := 3) (v := .int .i64 0) rfl
      have f3 := (unhide RP).froz 3
      have rz := (unhide RP).lt
      go_wp2_with fail
      try simp only [Exit.inBlock, Exit.then]
      have qe := fun (n f3 : Int) (f1 f2 : ByteArray) => SpAt.end4 (n := n) (f1 := f1) (f2 := f2) (f3 := f3) (unhide H) (unhide RP) (unhide TC) hbz
      exact bodyPost_ret (ret_reply (fn := Tryd.f47) rfl _ _ (w.heap.size + 1) (encR ⟨_, _, _, _⟩) rfl rfl (qe _ _ _ _).1) rfl ⟨rfl, (qe _ _ _ _).2⟩
end Go.Proofs.YtppkgcedkdeccaaDoor
/- Sessions: the specification's do: use, sign out. -/
namespace Go.Proofs.YtppkgcedkdeccaaDoor
set_option linter.unusedSimpArgs false
set_option linter.unusedVariables false
set_option maxRecDepth 20000
open Go.RowKit Go.Maps

set_option maxHeartbeats 8000000 in
theorem do_use {w0 : World} {b : Nat} {ka : Option Addr} {kl kc : Nat} {x : SsT} {v : Value} {P : List PxT} (k t : Int) (u d i : ByteArray) (w : World) (h : SpAt w0 w b ka kl kc x v P) (hu : u.size ≤ maxLen) (hd : d.size ≤ maxLen) (hi : i.size ≤ maxLen) (hOK : OkS x) (hf : fitE k t u d i = true) (hnt : x.now ≤ t) (hk1 : ¬ k = 1) (hk5 : ¬ k = 5) (j : Nat) (hj : j < P.length) (hfind : findI (idsL x.list) i = some j) (hdev : P[j].s.device = d) (hlast : lastI P[j].s.ids = i) (hdead : P[j].s.dead = false) (hov : overS x P[j].s t = false) (hk3 : ¬ k = 3) (hk4 : ¬ k = 4) :
    Calls Tryd.prog 47 #[.pointer (some ⟨b, 0, none⟩), .agg #[.int .i64 k, .int .i64 t, .string u, .string d, .string i]] w (DoQ w0 w b ka kl kc ({ x with now := t, list := x.list.set j { P[j].s with last := t } }) (toldR P[j].s)) := by
  have HOL := h.lenP hOK
  have HOK : OkS { x with now := t } := ⟨fit_t hf, hOK.ln, hOK.gv, hOK.all, hOK.id, hOK.mo⟩
  have hbz := h.box.lt
  have nSE : ¬ St 34 := by unfold St; decide
  have nSR : ¬ St 31 := by unfold St; decide
  obtain ⟨W1, hW1⟩ : ∃ W, W = w.alloc (.cells #[.int .i64 k, .int .i64 t, .string u, .string d, .string i] 34) := ⟨_, rfl⟩
  obtain ⟨W2, hW2⟩ : ∃ W, W = W1.alloc (.cells #[.int .i64 0, .string ⟨#[]⟩, .string ⟨#[]⟩, .int .i64 0] 31) := ⟨_, rfl⟩
  have z1 : W1.heap.size = w.heap.size + 1 := by rw [hW1]; simp
  have b1 : Below w.heap.size w W1 := by rw [hW1]; exact bAl (Below.refl _ _) _
  have b2 : Below W1.heap.size W1 W2 := by rw [hW2]; exact bAl (Below.refl _ _) _
  have RE := hide ((show RowIs W1 w.heap.size #[.int .i64 k, .int .i64 t, .string u, .string d, .string i] 34 by rw [hW1]; exact RowIs.new _ _ _).keep b2)
  have RP := hide (show RowIs W2 (w.heap.size + 1) rp0 31 by rw [hW2, ← z1]; exact RowIs.new _ _ _)
  have H := hide ((h.keep b1).keep b2)
  have TC := hide (h.tch (bTr b1 b2))
  rw [hW1] at hW2
  have HW2 := hide hW2.symm
  have HLO := hide h.lo
  clear hW1 hW2 z1 b1 b2 h
  have qb := hide (sBad_any k t u d i W2 hu hd)
  rw [hf] at qb
  simp only [Bool.not_true, Bool.not_false] at qb
  have e0 := (unhide RE).at (o := 0) (v := .int .i64 k) rfl
  have e1 := (unhide RE).at (o := 1) (v := .int .i64 t) rfl
  have e2 := (unhide RE).at (o := 2) (v := .string u) rfl
  have e3 := (unhide RE).at (o := 3) (v := .string d) rfl
  have e4 := (unhide RE).at (o := 4) (v := .string i) rfl
  have ez := (unhide RE).lt
  go_enter Tryd.func47, Tryd.ntmps47
  go_upto_region 1 with fail
  refine wp_world (unhide HW2) ?_
  clear HW2
  go_wp2_with fail
  refine (unhide qb).mono ?_
  rintro e w3 ⟨rfl, hb3⟩
  replace RE := hide ((unhide RE).keep hb3)
  replace RP := hide ((unhide RP).keep hb3)
  replace TC := hide ((unhide TC).trans ((unhide H).tch hb3))
  replace H := hide ((unhide H).keep hb3)
  clear hb3
  clear e0 e1 e2 e3 e4 ez
  clear qb
  have c3 := (unhide H).box.at (o := 3) (v := .int .i64 x.now) rfl
  have cz := (unhide H).box.lt
  have nt : ¬ t < x.now := by omega
  have e0 := (unhide RE).at (o := 0) (v := .int .i64 k) rfl
  have e1 := (unhide RE).at (o := 1) (v := .int .i64 t) rfl
  have e2 := (unhide RE).at (o := 2) (v := .string u) rfl
  have e3 := (unhide RE).at (o := 3) (v := .string d) rfl
  have e4 := (unhide RE).at (o := 4) (v := .string i) rfl
  have ez := (unhide RE).lt
  go_upto_region 3 with fail
  go_region
  go_upto_region 5 with fail
  obtain ⟨w4, hw4⟩ : ∃ W, W = w3.drew := ⟨_, rfl⟩
  refine wp_world hw4.symm ?_
  have hb4 : Below w3.heap.size w3 w4 := by rw [hw4]; exact (Below.refl _ _).drew
  clear c3 cz nt hw4
  clear e0 e1 e2 e3 e4 ez
  replace RE := hide ((unhide RE).keep hb4)
  replace RP := hide ((unhide RP).keep hb4)
  replace TC := hide ((unhide TC).trans ((unhide H).tch hb4))
  replace H := hide ((unhide H).keep hb4)
  clear hb4
  have e0 := (unhide RE).at (o := 0) (v := .int .i64 k) rfl
  have e1 := (unhide RE).at (o := 1) (v := .int .i64 t) rfl
  have e2 := (unhide RE).at (o := 2) (v := .string u) rfl
  have e3 := (unhide RE).at (o := 3) (v := .string d) rfl
  have e4 := (unhide RE).at (o := 4) (v := .string i) rfl
  have ez := (unhide RE).lt
  have c3 := (unhide H).box.at (o := 3) (v := .int .i64 x.now) rfl
  have f3 := (unhide H).box.froz 3
  have cz := (unhide H).box.lt
  obtain ⟨w5, hw5⟩ : ∃ W, W = w4.setCell ⟨b, 3, none⟩ (.int .i64 t) := ⟨_, rfl⟩
  have HW5 := hide hw5.symm
  have z5 : w5.heap.size = w4.heap.size := by rw [hw5]; simp [World.setCell]
  have nb1 : w.heap.size ≠ b := by omega
  have nb2 : w.heap.size + 1 ≠ b := by omega
  have RE' := hide (show RowIs w5 w.heap.size _ 34 by rw [hw5]; exact (unhide RE).setOther _ nb1)
  have RP' := hide (show RowIs w5 (w.heap.size + 1) rp0 31 by rw [hw5]; exact (unhide RP).setOther _ nb2)
  have TC' := hide (show Tch St b w w5 by rw [hw5]; exact (unhide TC).trans ((unhide H).tchB _ _))
  have H' := hide (show SpAt w0 w5 b ka kl kc { x with now := t } v P by rw [hw5]; exact (unhide H).setBox 3 _ _ _ rfl rfl rfl)
  clear hw5
  go_upto_region 6 with fail
  refine wp_world (unhide HW5) ?_
  clear HW5 RE RP TC H c3 f3 cz
  clear e0 e1 e2 e3 e4 ez
  have RE := RE'
  have RP := RP'
  have TC := TC'
  have H := H'
  clear RE' RP' TC' H' z5 nb1 nb2
  obtain ⟨va, vc, rfl, hform⟩ := (unhide H).slice
  have HF := hide hform
  clear hform
  obtain ⟨n, hn⟩ : ∃ n, P.length = n := ⟨_, rfl⟩
  have n1000 : n ≤ 1000 := by rw [← hn]; exact HOL
  have HN := hide hn
  rw [hn] at H
  clear hn
  have nk1 : (k == 1) = false := by simpa using hk1
  have nk5 : (k == 5) = false := by simpa using hk5
  have e0 := (unhide RE).at (o := 0) (v := .int .i64 k) rfl
  have e1 := (unhide RE).at (o := 1) (v := .int .i64 t) rfl
  have e2 := (unhide RE).at (o := 2) (v := .string u) rfl
  have e3 := (unhide RE).at (o := 3) (v := .string d) rfl
  have e4 := (unhide RE).at (o := 4) (v := .string i) rfl
  have ez := (unhide RE).lt
  have c5 := (unhide H).box.at (o := 5) (v := .slice va n vc) rfl
  have cz := (unhide H).box.lt
  go_wp2_with fail
  go_loopw [7, 96] (fun a q w' => ∃ m : Nat, m ≤ n ∧ q = .int .i64 m ∧ a = .int .i64 (atV (findK (idsL x.list) i m)) ∧ Hid (Below w5.heap.size w5 w')) (fun _ q _ => n - (intOf q).toNat)
  case atStart => exact ⟨0, Nat.zero_le _, rfl, rfl, hide (Below.refl _ _)⟩
  case round =>
    obtain ⟨m, hm, rfl, rfl, hb⟩ := hrel
    have BB := hb
    clear hb
    by_cases hlt : m < n
    · have HR := hide ((unhide H).keep (unhide BB))
      obtain ⟨g, rfl, _, _⟩ := unhide HF (by rw [unhide HN]; omega)
      have hmP : m < P.length := by rw [unhide HN]; exact hlt
      obtain ⟨p, hp⟩ : ∃ p, P[m] = p := ⟨_, rfl⟩
      have HC : ∀ {j : Nat} {y : Value}, (encP p)[j]? = some y → wr.cell? ⟨g, m * 7 + j, none⟩ = some y := fun {j y} e => by
        have q := unhide HR
        rw [← unhide HN] at q
        exact q.cells hmP (by rw [hp]; exact e)
      have x0 := HC (j := 0) (y := .slice (some ⟨p.g, 0, none⟩) p.s.ids.length p.c) rfl
      rw [Nat.add_zero] at x0
      have x1 := HC (j := 1) (y := .string p.s.user) rfl
      have x2 := HC (j := 2) (y := .string p.s.device) rfl
      have x3 := HC (j := 3) (y := .int .i64 p.s.level) rfl
      have x4 := HC (j := 4) (y := .int .i64 p.s.login) rfl
      have x5 := HC (j := 5) (y := .int .i64 p.s.last) rfl
      have x6 := HC (j := 6) (y := .bool p.s.dead) rfl
      have IDS := hide (own_slS (by have q := (unhide HR).ids m hmP; rw [hp] at q; exact q))
      have IA := hide (show (idsL x.list).getD m [] = p.s.ids by rw [← hp]; exact (unhide H).idsAt hmP)
      have ILN : p.s.ids.length ≤ 1000 := by
        have q := ((unhide H).okP HOK hmP).il
        rw [hp] at q
        exact Nat.le_trans q HOK.gv
      have RER := hide ((unhide RE).keep (unhide BB))
      clear HC hp
      generalize p.s.user = pu at *
      generalize p.s.device = pd at *
      generalize p.s.level = pl at *
      generalize p.s.login = pg at *
      generalize p.s.last = pa at *
      generalize p.s.dead = pe at *
      generalize p.s.ids = pi at *
      obtain ⟨pn, hpn⟩ : ∃ q, pi.length = q := ⟨_, rfl⟩
      rw [hpn] at x0 ILN
      have PN := hide hpn
      rw [hpn] at IDS
      clear hpn
      have re4 := (unhide RER).at (o := 4) (v := .string i) rfl
      have rez := (unhide RER).lt
      have AN := hide (fun (B : Bool) (hB : B = true ↔ i ∈ pi) => atV_next (L := idsL x.list) (y := i) (k := m) B (by rw [unhide IA]; exact hB))
      go_wp2_with fail
      refine (V.l3Has_anyY _ pn p.c pi i _ (by omega) ((unhide IDS).keep (bAl (Below.refl _ _) _))).mono ?_
      rintro e wx ⟨⟨vb, rfl, hvb⟩, rfl⟩
      have HVB := hide (unhide AN vb hvb)
      clear AN hvb x0 x1 x2 x3 x4 x5 x6
      have BN := hide (bTr (unhide BB) (bAl (Below.refl _ _) (.cells #[.slice (some ⟨p.g, 0, none⟩) pn p.c, .string pu, .string pd, .int .i64 pl, .int .i64 pg, .int .i64 pa, .bool pe] 79)))
      cases vb
      all_goals
        go_wp2_with fail
        exact ⟨⟨m + 1, by omega, by go_num, by rw [unhide HVB]; simp, BN⟩, by simp [intOf]; omega⟩
    · have em : m = n := by omega
      subst em
      have HR := hide ((unhide H).keep (unhide BB))
      replace RE := hide ((unhide RE).keep (unhide BB))
      replace RP := hide ((unhide RP).keep (unhide BB))
      replace TC := hide ((unhide TC).trans ((unhide H).tch (unhide BB)))
      clear H BB
      have H := HR
      clear HR
      obtain ⟨AT, hAT⟩ : ∃ q, findK (idsL x.list) i m = q := ⟨_, rfl⟩
      have hfi : findI (idsL x.list) i = AT := by unfold findI; rw [(unhide H).idsLen, unhide HN]; exact hAT
      rw [hAT]
      clear hAT e0 e1 e2 e3 e4 ez c5 cz
      obtain rfl : AT = some j := hfi.symm.trans hfind
      simp only [atV]
      have hjm : j < m := by rw [← unhide HN]; exact hj
      have nj : ¬ (j : Int) < 0 := by omega
      obtain ⟨g, rfl, hgz, hbg⟩ := unhide HF (by omega)
      obtain ⟨p, hp⟩ : ∃ p, P[j] = p := ⟨_, rfl⟩
      rw [hp] at hlast hdev hdead hov
      have HP := hide hp
      have HRR := hide (show toldR P[j].s = ⟨0, i, p.s.user, p.s.level⟩ by unfold toldR; rw [hp, hlast])
      have HXX := hide (show { x with now := t, list := x.list.set j { P[j].s with last := t } } = { x with now := t, list := x.list.set j { p.s with last := t } } by rw [hp])
      have OP := hide (show OkX x.key x.given p.s by have q := (unhide H).okP HOK hj; rw [hp] at q; exact q)
      obtain ⟨pn, hpn⟩ : ∃ q, p.s.ids.length = q + 1 := ⟨p.s.ids.length - 1, by have := List.length_pos_iff.2 (unhide OP).ne; omega⟩
      have HPN := hide hpn
      have pn1000 : pn ≤ 1000 := by have q := (unhide OP).il; have q2 := hOK.gv; omega
      have QH := hide (show SpAt w0 wr b ka kl kc { x with now := t } (.slice (some ⟨g, 0, none⟩) P.length vc) P by rw [unhide HN]; exact unhide H)
      have HC : ∀ {o : Nat} {y : Value}, (encP p)[o]? = some y → wr.cell? ⟨g, j * 7 + o, none⟩ = some y := fun {o y} e => (unhide QH).cells hj (by rw [hp]; exact e)
      have gw : g < wr.heap.size := ((unhide QH).row.lt g rfl).2
      have x0 := kept_cell (W := wr) (p := ⟨g, j * 7 + 0, none⟩) gw (HC (o := 0) (y := .slice (some ⟨p.g, 0, none⟩) p.s.ids.length p.c) rfl)
      rw [Nat.add_zero, hpn] at x0
      have x1 := kept_cell (W := wr) (p := ⟨g, j * 7 + 1, none⟩) gw (HC (o := 1) (y := .string p.s.user) rfl)
      have x2 := kept_cell (W := wr) (p := ⟨g, j * 7 + 2, none⟩) gw (HC (o := 2) (y := .string p.s.device) rfl)
      have x3 := kept_cell (W := wr) (p := ⟨g, j * 7 + 3, none⟩) gw (HC (o := 3) (y := .int .i64 p.s.level) rfl)
      have x4 := kept_cell (W := wr) (p := ⟨g, j * 7 + 4, none⟩) gw (HC (o := 4) (y := .int .i64 p.s.login) rfl)
      have x5 := kept_cell (W := wr) (p := ⟨g, j * 7 + 5, none⟩) gw (HC (o := 5) (y := .int .i64 p.s.last) rfl)
      have x6 := kept_cell (W := wr) (p := ⟨g, j * 7 + 6, none⟩) gw (HC (o := 6) (y := .bool p.s.dead) rfl)
      have id0 := (unhide QH).ids j hj
      rw [hp] at id0
      have x7 := kept_cell (W := wr) (p := ⟨p.g, pn, none⟩) ((id0.lt p.g rfl).2) (by
        rw [id0.cellAt pn (by omega)]
        have q := lastI_get (unhide OP).ne
        rw [hpn, Nat.add_sub_cancel] at q
        show (p.s.ids.map Value.string)[pn]? = some (.string (lastI p.s.ids))
        rw [List.getElem?_map, q]; rfl)
      have y3 := kept_cell (W := wr) (unhide RE).lt ((unhide RE).at (o := 3) (v := .string d) rfl)
      have y4 := kept_cell (W := wr) (unhide RE).lt ((unhide RE).at (o := 4) (v := .string i) rfl)
      have y0 := kept_cell (W := wr) (unhide RE).lt ((unhide RE).at (o := 0) (v := .int .i64 k) rfl)
      have c5 := (unhide H).box.at (o := 5) (v := .slice (some ⟨g, 0, none⟩) m vc) rfl
      have cz := (unhide H).box.lt
      have ne : Nonempty (Kept wr) := ⟨⟨wr, Below.refl _ _⟩⟩
      have wi : IntKind.i64.wrap (((pn + 1 : Nat) : Int) - 1) = (pn : Int) := by rw [IntKind.wrap_i64]; omega
      clear HC id0 hp hpn
      go_upto_region 28 with fail
      clear c5 cz
      rw [hlast] at x7
      rw [hdev] at x2
      have s1 := V.str_eqY i
      have s2 := V.str_eqY d
      refine wp_region_kept (by kernel_rfl) (by kernel_rfl) ?_
      repeat (first
        | go_big_quiet_step ((fail))
        | quiet_step ((fail)))
      refine wpQuiet_nil ?_
      rintro _ ⟨q, rfl⟩
      obtain ⟨wq, hwq⟩ : ∃ W, W = q.w := ⟨_, rfl⟩
      have hbq : Below wr.heap.size wr wq := by rw [hwq]; exact q.h
      rw [← hwq]
      clear hwq q
      replace RE := hide ((unhide RE).keep hbq)
      replace RP := hide ((unhide RP).keep hbq)
      replace TC := hide ((unhide TC).trans ((unhide H).tch hbq))
      replace H := hide ((unhide H).keep hbq)
      replace QH := hide ((unhide QH).keep hbq)
      clear hbq
      clear x0 x1 x2 x3 x4 x5 x6 x7 y0 y3 y4 ne gw
      clear s1 s2 wi
      have HC : ∀ {o : Nat} {y : Value}, (encP p)[o]? = some y → wq.cell? ⟨g, j * 7 + o, none⟩ = some y := fun {o y} e => (unhide QH).cells hj (by rw [unhide HP]; exact e)
      have v0 := HC (o := 0) (y := (.slice (some ⟨p.g, 0, none⟩) p.s.ids.length p.c)) rfl
      rw [Nat.add_zero, unhide HPN] at v0
      have v1 := HC (o := 1) (y := (.string p.s.user)) rfl
      have v2 := HC (o := 2) (y := (.string p.s.device)) rfl
      have v3 := HC (o := 3) (y := (.int .i64 p.s.level)) rfl
      have v4 := HC (o := 4) (y := (.int .i64 p.s.login)) rfl
      have v5 := HC (o := 5) (y := (.int .i64 p.s.last)) rfl
      have v6 := HC (o := 6) (y := (.bool p.s.dead)) rfl
      have vg : g < wq.heap.size := ((unhide QH).row.lt g rfl).2
      clear HC
      rw [hdead] at v6
      rw [hdev] at v2
      have hkx := (unhide OP)
      have xx0 := kept_cell (W := wq) (p := ⟨g, j * 7, none⟩) vg v0
      have xx1 := kept_cell (W := wq) (p := ⟨g, j * 7 + 1, none⟩) vg v1
      have xx2 := kept_cell (W := wq) (p := ⟨g, j * 7 + 2, none⟩) vg v2
      have xx3 := kept_cell (W := wq) (p := ⟨g, j * 7 + 3, none⟩) vg v3
      have xx4 := kept_cell (W := wq) (p := ⟨g, j * 7 + 4, none⟩) vg v4
      have xx5 := kept_cell (W := wq) (p := ⟨g, j * 7 + 5, none⟩) vg v5
      have xx6 := kept_cell (W := wq) (p := ⟨g, j * 7 + 6, none⟩) vg v6
      have cc3 := kept_cell (W := wq) (unhide H).box.lt ((unhide H).box.at (o := 3) (v := .int .i64 t) rfl)
      have ne : Nonempty (Kept wq) := ⟨⟨wq, Below.refl _ _⟩⟩
      have qo := hide (fun (q : Kept wq) => show Calls Tryd.prog 32 #[.pointer (some ⟨b, 0, none⟩), .agg #[.slice (some ⟨p.g, 0, none⟩) (pn + 1) p.c, .string p.s.user, .string d, .int .i64 p.s.level, .int .i64 p.s.login, .int .i64 p.s.last, .bool false], .int .i64 t] q.w (fun e w' => e = .returned (.bool false) ∧ Below q.w.heap.size q.w w') from by
        have q1 := sOver_any b (pn + 1) p.c (some ⟨p.g, 0, none⟩) ka kl kc { x with now := t } p.s _ t q.w ((unhide H).box.keep q.h) hkx.lg hkx.la ⟨(by have q5 := hOK.id.1; show (0 : Int) ≤ x.idle; omega), hOK.id.2⟩ ⟨(by have q5 := hOK.mo.1; show (0 : Int) ≤ x.most; omega), hOK.mo.2⟩
        unfold xV at q1
        rw [show overS { x with now := t } p.s t = overS x p.s t from rfl, hov, hdead, hdev] at q1
        exact q1)
      clear hkx
      go_upto_region 33 with fail
      refine wp_region_kept (by kernel_rfl) (by kernel_rfl) ?_
      repeat (first
        | go_big_quiet_step ((go_at_call 32; with_reducible exact kept_call (unhide qo _)))
        | quiet_step ((go_at_call 32; with_reducible exact kept_call (unhide qo _))))
      refine wpQuiet_nil ?_
      rintro _ ⟨q, rfl⟩
      obtain ⟨wo, hwo⟩ : ∃ W, W = q.w := ⟨_, rfl⟩
      have hbo : Below wq.heap.size wq wo := by rw [hwo]; exact q.h
      rw [← hwo]
      clear hwo q qo xx0 xx1 xx2 xx3 xx4 xx5 xx6 cc3 ne v0 v1 v2 v3 v4 v5 v6 vg
      replace RE := hide ((unhide RE).keep hbo)
      replace RP := hide ((unhide RP).keep hbo)
      replace TC := hide ((unhide TC).trans ((unhide H).tch hbo))
      replace H := hide ((unhide H).keep hbo)
      replace QH := hide ((unhide QH).keep hbo)
      clear hbo
      have HC : ∀ {o : Nat} {y : Value}, (encP p)[o]? = some y → wo.cell? ⟨g, j * 7 + o, none⟩ = some y := fun {o y} e => (unhide QH).cells hj (by rw [unhide HP]; exact e)
      have v5 := HC (o := 5) (y := (.int .i64 p.s.last)) rfl
      have vg : g < wo.heap.size := ((unhide QH).row.lt g rfl).2
      clear HC
      have c3 := (unhide H).box.at (o := 3) (v := .int .i64 t) rfl
      have cz := (unhide H).box.lt
      have fg := (unhide QH).row.frozenAt (j * 7 + 5)
      obtain ⟨w7, hw7⟩ : ∃ W, W = wo.setCell ⟨g, j * 7 + 5, none⟩ (.int .i64 t) := ⟨_, rfl⟩
      have HW := hide hw7.symm
      have EX : encP ⟨{ p.s with last := t }, p.g, p.c⟩ = (encP p).set 5 (.int .i64 t) := rfl
      have Q2 := hide (show SpAt w0 w7 b ka kl kc { x with now := t, list := x.list.set j { p.s with last := t } } (.slice (some ⟨g, 0, none⟩) P.length vc) (P.set j ⟨{ p.s with last := t }, p.g, p.c⟩) by
        rw [hw7]
        have q := (unhide QH).setX hj 5 (.int .i64 t) { p.s with last := t } (by omega) (by rw [unhide HP]; exact EX) (by rw [unhide HP])
        rw [unhide HP] at q
        exact q)
      have gb : w.heap.size ≠ g := fun e => by
        obtain ⟨C, hC⟩ := own_is (unhide QH).row (g := g) rfl
        have q := unhide RE
        unfold RowIs at q
        rw [e, hC] at q
        simp at q
      have gb2 : w.heap.size + 1 ≠ g := fun e => by
        obtain ⟨C, hC⟩ := own_is (unhide QH).row (g := g) rfl
        have q := unhide RP
        unfold RowIs at q
        rw [e, hC] at q
        simp at q
      have RE' := hide (show RowIs w7 w.heap.size _ 34 by rw [hw7]; exact (unhide RE).setOther _ gb)
      have RP' := hide (show RowIs w7 (w.heap.size + 1) rp0 31 by rw [hw7]; exact (unhide RP).setOther _ gb2)
      have TC' := hide (show Tch St b w w7 by rw [hw7]; exact (unhide TC).trans ((unhide QH).tchX _ _))
      clear hw7 EX
      go_upto_region 36 with fail
      refine wp_world (unhide HW) ?_
      clear HW RE RP TC H QH gb gb2 fg
      have RE := RE'
      have RP := RP'
      have TC := TC'
      have H := Q2
      clear RE' RP' TC' Q2
      clear v5 vg c3 cz
      obtain ⟨P2, hP2⟩ : ∃ q, q = P.set j ⟨{ p.s with last := t }, p.g, p.c⟩ := ⟨_, rfl⟩
      have hl2 : P2.length = P.length := by rw [hP2]; simp
      have hj2 : j < P2.length := by rw [hl2]; exact hj
      have HP2 : P2[j] = ⟨{ p.s with last := t }, p.g, p.c⟩ := by subst hP2; simp
      rw [← hP2, ← hl2] at H
      have HQ := hide HP2
      have QH := H
      clear hP2 hl2 HP2
      have e0 := (unhide RE).at (o := 0) (v := .int .i64 k) rfl
      have ez := (unhide RE).lt
      have nk3 : (k == 3) = false := by simpa using hk3
      have nk4 : (k == 4) = false := by simpa using hk4
      have HC : ∀ {o : Nat} {y : Value}, (encP ⟨{ p.s with last := t }, p.g, p.c⟩)[o]? = some y → w7.cell? ⟨g, j * 7 + o, none⟩ = some y := fun {o y} e => (unhide QH).cells hj2 (by rw [unhide HQ]; exact e)
      have v0 := HC (o := 0) (y := (.slice (some ⟨p.g, 0, none⟩) p.s.ids.length p.c)) rfl
      rw [Nat.add_zero, unhide HPN] at v0
      have v1 := HC (o := 1) (y := (.string p.s.user)) rfl
      have v2 := HC (o := 2) (y := (.string p.s.device)) rfl
      have v3 := HC (o := 3) (y := (.int .i64 p.s.level)) rfl
      have v4 := HC (o := 4) (y := (.int .i64 p.s.login)) rfl
      have v5 := HC (o := 5) (y := (.int .i64 t)) rfl
      have v6 := HC (o := 6) (y := (.bool p.s.dead)) rfl
      have vg : g < w7.heap.size := ((unhide QH).row.lt g rfl).2
      clear HC
      rw [hdead] at v6
      have qt := hide (show Calls Tryd.prog 33 #[.agg #[.slice (some ⟨p.g, 0, none⟩) (pn + 1) p.c, .string p.s.user, .string d, .int .i64 p.s.level, .int .i64 p.s.login, .int .i64 t, .bool false]] w7 (fun e w' => e = .returned (.agg #[.int .i64 0, .string i, .string p.s.user, .int .i64 p.s.level]) ∧ Below w7.heap.size w7 w') from by
        have id0 := (unhide QH).ids j hj2
        rw [unhide HQ] at id0
        have q1 := sTold_any p.g (pn + 1) p.c { p.s with last := t } w7 (unhide HPN).symm (unhide OP).ne (by omega) ((id0.lt p.g rfl).2) (by
          rw [id0.cellAt _ (by show pn + 1 - 1 < p.s.ids.length * 1; rw [unhide HPN]; omega)]
          have q := lastI_get (unhide OP).ne
          rw [unhide HPN] at q
          show (p.s.ids.map Value.string)[pn + 1 - 1]? = some (.string (lastI p.s.ids))
          rw [List.getElem?_map, q]; rfl)
        rw [show encR (toldR { p.s with last := t }) = #[.int .i64 0, .string (lastI p.s.ids), .string p.s.user, .int .i64 p.s.level] from rfl, hlast] at q1
        unfold xV at q1
        rw [show ({ p.s with last := t } : SxT).device = p.s.device from rfl, hdev] at q1
        rw [show ({ p.s with last := t } : SxT).dead = p.s.dead from rfl, hdead] at q1
        exact q1)
      rw [hdev] at v2
      go_wp2_with fail
      refine (unhide qt).mono ?_
      rintro e w9 ⟨rfl, hb9⟩
      clear qt v0 v1 v2 v3 v4 v5 v6 vg
      replace RE := hide ((unhide RE).keep hb9)
      replace RP := hide ((unhide RP).keep hb9)
      replace TC := hide ((unhide TC).trans ((unhide H).tch hb9))
      replace H := hide ((unhide H).keep hb9)
      replace QH := hide ((unhide QH).keep hb9)
      clear hb9
      have r0 := (unhide RP).at (o := 0) (v := .int .i64 0) rfl
      have f0 := (unhide RP).froz 0
      have r1 := (unhide RP).at (o := 1) (v := .string ⟨#[]⟩) rfl
      have f1 := (unhide RP).froz 1
      have r2 := (unhide RP).at (o := 2) (v := .string ⟨#[]⟩) rfl
      have f2 := (unhide RP).froz 2
      have r3 := (unhide RP).at (o := 3) (v := .int .i64 0) rfl
      have f3 := (unhide RP).froz 3
      have rz := (unhide RP).lt
      go_wp2_with fail
      try simp only [Exit.inBlock, Exit.then]
      have qe := fun (n f3 : Int) (f1 f2 : ByteArray) => SpAt.end4 (n := n) (f1 := f1) (f2 := f2) (f3 := f3) (unhide H) (unhide RP) (unhide TC) hbz
      refine bodyPost_ret (ret_reply (fn := Tryd.f47) rfl _ _ (w.heap.size + 1) (encR ⟨_, _, _, _⟩) rfl rfl (qe _ _ _ _).1) rfl ⟨?_, ?_⟩
      · rw [unhide HRR]
      · rw [unhide HXX]; exact (qe _ _ _ _).2
set_option maxHeartbeats 8000000 in
theorem do_out {w0 : World} {b : Nat} {ka : Option Addr} {kl kc : Nat} {x : SsT} {v : Value} {P : List PxT} (k t : Int) (u d i : ByteArray) (w : World) (h : SpAt w0 w b ka kl kc x v P) (hu : u.size ≤ maxLen) (hd : d.size ≤ maxLen) (hi : i.size ≤ maxLen) (hOK : OkS x) (hf : fitE k t u d i = true) (hnt : x.now ≤ t) (hk1 : ¬ k = 1) (hk5 : ¬ k = 5) (j : Nat) (hj : j < P.length) (hfind : findI (idsL x.list) i = some j) (hdev : P[j].s.device = d) (hlast : lastI P[j].s.ids = i) (hdead : P[j].s.dead = false) (hov : overS x P[j].s t = false) (hk4 : Hid (k = 4)) :
    Calls Tryd.prog 47 #[.pointer (some ⟨b, 0, none⟩), .agg #[.int .i64 k, .int .i64 t, .string u, .string d, .string i]] w (DoQ w0 w b ka kl kc ({ x with now := t, list := x.list.set j { P[j].s with last := t, dead := true } }) (toldR P[j].s)) := by
  have HOL := h.lenP hOK
  have HOK : OkS { x with now := t } := ⟨fit_t hf, hOK.ln, hOK.gv, hOK.all, hOK.id, hOK.mo⟩
  have hbz := h.box.lt
  have nSE : ¬ St 34 := by unfold St; decide
  have nSR : ¬ St 31 := by unfold St; decide
  obtain ⟨W1, hW1⟩ : ∃ W, W = w.alloc (.cells #[.int .i64 k, .int .i64 t, .string u, .string d, .string i] 34) := ⟨_, rfl⟩
  obtain ⟨W2, hW2⟩ : ∃ W, W = W1.alloc (.cells #[.int .i64 0, .string ⟨#[]⟩, .string ⟨#[]⟩, .int .i64 0] 31) := ⟨_, rfl⟩
  have z1 : W1.heap.size = w.heap.size + 1 := by rw [hW1]; simp
  have b1 : Below w.heap.size w W1 := by rw [hW1]; exact bAl (Below.refl _ _) _
  have b2 : Below W1.heap.size W1 W2 := by rw [hW2]; exact bAl (Below.refl _ _) _
  have RE := hide ((show RowIs W1 w.heap.size #[.int .i64 k, .int .i64 t, .string u, .string d, .string i] 34 by rw [hW1]; exact RowIs.new _ _ _).keep b2)
  have RP := hide (show RowIs W2 (w.heap.size + 1) rp0 31 by rw [hW2, ← z1]; exact RowIs.new _ _ _)
  have H := hide ((h.keep b1).keep b2)
  have TC := hide (h.tch (bTr b1 b2))
  rw [hW1] at hW2
  have HW2 := hide hW2.symm
  have HLO := hide h.lo
  clear hW1 hW2 z1 b1 b2 h
  have qb := hide (sBad_any k t u d i W2 hu hd)
  rw [hf] at qb
  simp only [Bool.not_true, Bool.not_false] at qb
  have e0 := (unhide RE).at (o := 0) (v := .int .i64 k) rfl
  have e1 := (unhide RE).at (o := 1) (v := .int .i64 t) rfl
  have e2 := (unhide RE).at (o := 2) (v := .string u) rfl
  have e3 := (unhide RE).at (o := 3) (v := .string d) rfl
  have e4 := (unhide RE).at (o := 4) (v := .string i) rfl
  have ez := (unhide RE).lt
  go_enter Tryd.func47, Tryd.ntmps47
  go_upto_region 1 with fail
  refine wp_world (unhide HW2) ?_
  clear HW2
  go_wp2_with fail
  refine (unhide qb).mono ?_
  rintro e w3 ⟨rfl, hb3⟩
  replace RE := hide ((unhide RE).keep hb3)
  replace RP := hide ((unhide RP).keep hb3)
  replace TC := hide ((unhide TC).trans ((unhide H).tch hb3))
  replace H := hide ((unhide H).keep hb3)
  clear hb3
  clear e0 e1 e2 e3 e4 ez
  clear qb
  have c3 := (unhide H).box.at (o := 3) (v := .int .i64 x.now) rfl
  have cz := (unhide H).box.lt
  have nt : ¬ t < x.now := by omega
  have e0 := (unhide RE).at (o := 0) (v := .int .i64 k) rfl
  have e1 := (unhide RE).at (o := 1) (v := .int .i64 t) rfl
  have e2 := (unhide RE).at (o := 2) (v := .string u) rfl
  have e3 := (unhide RE).at (o := 3) (v := .string d) rfl
  have e4 := (unhide RE).at (o := 4) (v := .string i) rfl
  have ez := (unhide RE).lt
  go_upto_region 3 with fail
  go_region
  go_upto_region 5 with fail
  obtain ⟨w4, hw4⟩ : ∃ W, W = w3.drew := ⟨_, rfl⟩
  refine wp_world hw4.symm ?_
  have hb4 : Below w3.heap.size w3 w4 := by rw [hw4]; exact (Below.refl _ _).drew
  clear c3 cz nt hw4
  clear e0 e1 e2 e3 e4 ez
  replace RE := hide ((unhide RE).keep hb4)
  replace RP := hide ((unhide RP).keep hb4)
  replace TC := hide ((unhide TC).trans ((unhide H).tch hb4))
  replace H := hide ((unhide H).keep hb4)
  clear hb4
  have e0 := (unhide RE).at (o := 0) (v := .int .i64 k) rfl
  have e1 := (unhide RE).at (o := 1) (v := .int .i64 t) rfl
  have e2 := (unhide RE).at (o := 2) (v := .string u) rfl
  have e3 := (unhide RE).at (o := 3) (v := .string d) rfl
  have e4 := (unhide RE).at (o := 4) (v := .string i) rfl
  have ez := (unhide RE).lt
  have c3 := (unhide H).box.at (o := 3) (v := .int .i64 x.now) rfl
  have f3 := (unhide H).box.froz 3
  have cz := (unhide H).box.lt
  obtain ⟨w5, hw5⟩ : ∃ W, W = w4.setCell ⟨b, 3, none⟩ (.int .i64 t) := ⟨_, rfl⟩
  have HW5 := hide hw5.symm
  have z5 : w5.heap.size = w4.heap.size := by rw [hw5]; simp [World.setCell]
  have nb1 : w.heap.size ≠ b := by omega
  have nb2 : w.heap.size + 1 ≠ b := by omega
  have RE' := hide (show RowIs w5 w.heap.size _ 34 by rw [hw5]; exact (unhide RE).setOther _ nb1)
  have RP' := hide (show RowIs w5 (w.heap.size + 1) rp0 31 by rw [hw5]; exact (unhide RP).setOther _ nb2)
  have TC' := hide (show Tch St b w w5 by rw [hw5]; exact (unhide TC).trans ((unhide H).tchB _ _))
  have H' := hide (show SpAt w0 w5 b ka kl kc { x with now := t } v P by rw [hw5]; exact (unhide H).setBox 3 _ _ _ rfl rfl rfl)
  clear hw5
  go_upto_region 6 with fail
  refine wp_world (unhide HW5) ?_
  clear HW5 RE RP TC H c3 f3 cz
  clear e0 e1 e2 e3 e4 ez
  have RE := RE'
  have RP := RP'
  have TC := TC'
  have H := H'
  clear RE' RP' TC' H' z5 nb1 nb2
  obtain ⟨va, vc, rfl, hform⟩ := (unhide H).slice
  have HF := hide hform
  clear hform
  obtain ⟨n, hn⟩ : ∃ n, P.length = n := ⟨_, rfl⟩
  have n1000 : n ≤ 1000 := by rw [← hn]; exact HOL
  have HN := hide hn
  rw [hn] at H
  clear hn
  have nk1 : (k == 1) = false := by simpa using hk1
  have nk5 : (k == 5) = false := by simpa using hk5
  have e0 := (unhide RE).at (o := 0) (v := .int .i64 k) rfl
  have e1 := (unhide RE).at (o := 1) (v := .int .i64 t) rfl
  have e2 := (unhide RE).at (o := 2) (v := .string u) rfl
  have e3 := (unhide RE).at (o := 3) (v := .string d) rfl
  have e4 := (unhide RE).at (o := 4) (v := .string i) rfl
  have ez := (unhide RE).lt
  have c5 := (unhide H).box.at (o := 5) (v := .slice va n vc) rfl
  have cz := (unhide H).box.lt
  go_wp2_with fail
  go_loopw [7, 96] (fun a q w' => ∃ m : Nat, m ≤ n ∧ q = .int .i64 m ∧ a = .int .i64 (atV (findK (idsL x.list) i m)) ∧ Hid (Below w5.heap.size w5 w')) (fun _ q _ => n - (intOf q).toNat)
  case atStart => exact ⟨0, Nat.zero_le _, rfl, rfl, hide (Below.refl _ _)⟩
  case round =>
    obtain ⟨m, hm, rfl, rfl, hb⟩ := hrel
    have BB := hb
    clear hb
    by_cases hlt : m < n
    · have HR := hide ((unhide H).keep (unhide BB))
      obtain ⟨g, rfl, _, _⟩ := unhide HF (by rw [unhide HN]; omega)
      have hmP : m < P.length := by rw [unhide HN]; exact hlt
      obtain ⟨p, hp⟩ : ∃ p, P[m] = p := ⟨_, rfl⟩
      have HC : ∀ {j : Nat} {y : Value}, (encP p)[j]? = some y → wr.cell? ⟨g, m * 7 + j, none⟩ = some y := fun {j y} e => by
        have q := unhide HR
        rw [← unhide HN] at q
        exact q.cells hmP (by rw [hp]; exact e)
      have x0 := HC (j := 0) (y := .slice (some ⟨p.g, 0, none⟩) p.s.ids.length p.c) rfl
      rw [Nat.add_zero] at x0
      have x1 := HC (j := 1) (y := .string p.s.user) rfl
      have x2 := HC (j := 2) (y := .string p.s.device) rfl
      have x3 := HC (j := 3) (y := .int .i64 p.s.level) rfl
      have x4 := HC (j := 4) (y := .int .i64 p.s.login) rfl
      have x5 := HC (j := 5) (y := .int .i64 p.s.last) rfl
      have x6 := HC (j := 6) (y := .bool p.s.dead) rfl
      have IDS := hide (own_slS (by have q := (unhide HR).ids m hmP; rw [hp] at q; exact q))
      have IA := hide (show (idsL x.list).getD m [] = p.s.ids by rw [← hp]; exact (unhide H).idsAt hmP)
      have ILN : p.s.ids.length ≤ 1000 := by
        have q := ((unhide H).okP HOK hmP).il
        rw [hp] at q
        exact Nat.le_trans q HOK.gv
      have RER := hide ((unhide RE).keep (unhide BB))
      clear HC hp
      generalize p.s.user = pu at *
      generalize p.s.device = pd at *
      generalize p.s.level = pl at *
      generalize p.s.login = pg at *
      generalize p.s.last = pa at *
      generalize p.s.dead = pe at *
      generalize p.s.ids = pi at *
      obtain ⟨pn, hpn⟩ : ∃ q, pi.length = q := ⟨_, rfl⟩
      rw [hpn] at x0 ILN
      have PN := hide hpn
      rw [hpn] at IDS
      clear hpn
      have re4 := (unhide RER).at (o := 4) (v := .string i) rfl
      have rez := (unhide RER).lt
      have AN := hide (fun (B : Bool) (hB : B = true ↔ i ∈ pi) => atV_next (L := idsL x.list) (y := i) (k := m) B (by rw [unhide IA]; exact hB))
      go_wp2_with fail
      refine (V.l3Has_anyY _ pn p.c pi i _ (by omega) ((unhide IDS).keep (bAl (Below.refl _ _) _))).mono ?_
      rintro e wx ⟨⟨vb, rfl, hvb⟩, rfl⟩
      have HVB := hide (unhide AN vb hvb)
      clear AN hvb x0 x1 x2 x3 x4 x5 x6
      have BN := hide (bTr (unhide BB) (bAl (Below.refl _ _) (.cells #[.slice (some ⟨p.g, 0, none⟩) pn p.c, .string pu, .string pd, .int .i64 pl, .int .i64 pg, .int .i64 pa, .bool pe] 79)))
      cases vb
      all_goals
        go_wp2_with fail
        exact ⟨⟨m + 1, by omega, by go_num, by rw [unhide HVB]; simp, BN⟩, by simp [intOf]; omega⟩
    · have em : m = n := by omega
      subst em
      have HR := hide ((unhide H).keep (unhide BB))
      replace RE := hide ((unhide RE).keep (unhide BB))
      replace RP := hide ((unhide RP).keep (unhide BB))
      replace TC := hide ((unhide TC).trans ((unhide H).tch (unhide BB)))
      clear H BB
      have H := HR
      clear HR
      obtain ⟨AT, hAT⟩ : ∃ q, findK (idsL x.list) i m = q := ⟨_, rfl⟩
      have hfi : findI (idsL x.list) i = AT := by unfold findI; rw [(unhide H).idsLen, unhide HN]; exact hAT
      rw [hAT]
      clear hAT e0 e1 e2 e3 e4 ez c5 cz
      obtain rfl : AT = some j := hfi.symm.trans hfind
      simp only [atV]
      have hjm : j < m := by rw [← unhide HN]; exact hj
      have nj : ¬ (j : Int) < 0 := by omega
      obtain ⟨g, rfl, hgz, hbg⟩ := unhide HF (by omega)
      obtain ⟨p, hp⟩ : ∃ p, P[j] = p := ⟨_, rfl⟩
      rw [hp] at hlast hdev hdead hov
      have HP := hide hp
      have HRR := hide (show toldR P[j].s = ⟨0, i, p.s.user, p.s.level⟩ by unfold toldR; rw [hp, hlast])
      have HXX := hide (show { x with now := t, list := x.list.set j { P[j].s with last := t, dead := true } } = { x with now := t, list := x.list.set j { p.s with last := t, dead := true } } by rw [hp])
      have OP := hide (show OkX x.key x.given p.s by have q := (unhide H).okP HOK hj; rw [hp] at q; exact q)
      obtain ⟨pn, hpn⟩ : ∃ q, p.s.ids.length = q + 1 := ⟨p.s.ids.length - 1, by have := List.length_pos_iff.2 (unhide OP).ne; omega⟩
      have HPN := hide hpn
      have pn1000 : pn ≤ 1000 := by have q := (unhide OP).il; have q2 := hOK.gv; omega
      have QH := hide (show SpAt w0 wr b ka kl kc { x with now := t } (.slice (some ⟨g, 0, none⟩) P.length vc) P by rw [unhide HN]; exact unhide H)
      have HC : ∀ {o : Nat} {y : Value}, (encP p)[o]? = some y → wr.cell? ⟨g, j * 7 + o, none⟩ = some y := fun {o y} e => (unhide QH).cells hj (by rw [hp]; exact e)
      have gw : g < wr.heap.size := ((unhide QH).row.lt g rfl).2
      have x0 := kept_cell (W := wr) (p := ⟨g, j * 7 + 0, none⟩) gw (HC (o := 0) (y := .slice (some ⟨p.g, 0, none⟩) p.s.ids.length p.c) rfl)
      rw [Nat.add_zero, hpn] at x0
      have x1 := kept_cell (W := wr) (p := ⟨g, j * 7 + 1, none⟩) gw (HC (o := 1) (y := .string p.s.user) rfl)
      have x2 := kept_cell (W := wr) (p := ⟨g, j * 7 + 2, none⟩) gw (HC (o := 2) (y := .string p.s.device) rfl)
      have x3 := kept_cell (W := wr) (p := ⟨g, j * 7 + 3, none⟩) gw (HC (o := 3) (y := .int .i64 p.s.level) rfl)
      have x4 := kept_cell (W := wr) (p := ⟨g, j * 7 + 4, none⟩) gw (HC (o := 4) (y := .int .i64 p.s.login) rfl)
      have x5 := kept_cell (W := wr) (p := ⟨g, j * 7 + 5, none⟩) gw (HC (o := 5) (y := .int .i64 p.s.last) rfl)
      have x6 := kept_cell (W := wr) (p := ⟨g, j * 7 + 6, none⟩) gw (HC (o := 6) (y := .bool p.s.dead) rfl)
      have id0 := (unhide QH).ids j hj
      rw [hp] at id0
      have x7 := kept_cell (W := wr) (p := ⟨p.g, pn, none⟩) ((id0.lt p.g rfl).2) (by
        rw [id0.cellAt pn (by omega)]
        have q := lastI_get (unhide OP).ne
        rw [hpn, Nat.add_sub_cancel] at q
        show (p.s.ids.map Value.string)[pn]? = some (.string (lastI p.s.ids))
        rw [List.getElem?_map, q]; rfl)
      have y3 := kept_cell (W := wr) (unhide RE).lt ((unhide RE).at (o := 3) (v := .string d) rfl)
      have y4 := kept_cell (W := wr) (unhide RE).lt ((unhide RE).at (o := 4) (v := .string i) rfl)
      have y0 := kept_cell (W := wr) (unhide RE).lt ((unhide RE).at (o := 0) (v := .int .i64 k) rfl)
      have c5 := (unhide H).box.at (o := 5) (v := .slice (some ⟨g, 0, none⟩) m vc) rfl
      have cz := (unhide H).box.lt
      have ne : Nonempty (Kept wr) := ⟨⟨wr, Below.refl _ _⟩⟩
      have wi : IntKind.i64.wrap (((pn + 1 : Nat) : Int) - 1) = (pn : Int) := by rw [IntKind.wrap_i64]; omega
      clear HC id0 hp hpn
      go_upto_region 28 with fail
      clear c5 cz
      rw [hlast] at x7
      rw [hdev] at x2
      have s1 := V.str_eqY i
      have s2 := V.str_eqY d
      refine wp_region_kept (by kernel_rfl) (by kernel_rfl) ?_
      repeat (first
        | go_big_quiet_step ((fail))
        | quiet_step ((fail)))
      refine wpQuiet_nil ?_
      rintro _ ⟨q, rfl⟩
      obtain ⟨wq, hwq⟩ : ∃ W, W = q.w := ⟨_, rfl⟩
      have hbq : Below wr.heap.size wr wq := by rw [hwq]; exact q.h
      rw [← hwq]
      clear hwq q
      replace RE := hide ((unhide RE).keep hbq)
      replace RP := hide ((unhide RP).keep hbq)
      replace TC := hide ((unhide TC).trans ((unhide H).tch hbq))
      replace H := hide ((unhide H).keep hbq)
      replace QH := hide ((unhide QH).keep hbq)
      clear hbq
      clear x0 x1 x2 x3 x4 x5 x6 x7 y0 y3 y4 ne gw
      clear s1 s2 wi
      have HC : ∀ {o : Nat} {y : Value}, (encP p)[o]? = some y → wq.cell? ⟨g, j * 7 + o, none⟩ = some y := fun {o y} e => (unhide QH).cells hj (by rw [unhide HP]; exact e)
      have v0 := HC (o := 0) (y := (.slice (some ⟨p.g, 0, none⟩) p.s.ids.length p.c)) rfl
      rw [Nat.add_zero, unhide HPN] at v0
      have v1 := HC (o := 1) (y := (.string p.s.user)) rfl
      have v2 := HC (o := 2) (y := (.string p.s.device)) rfl
      have v3 := HC (o := 3) (y := (.int .i64 p.s.level)) rfl
      have v4 := HC (o := 4) (y := (.int .i64 p.s.login)) rfl
      have v5 := HC (o := 5) (y := (.int .i64 p.s.last)) rfl
      have v6 := HC (o := 6) (y := (.bool p.s.dead)) rfl
      have vg : g < wq.heap.size := ((unhide QH).row.lt g rfl).2
      clear HC
      rw [hdead] at v6
      rw [hdev] at v2
      have hkx := (unhide OP)
      have xx0 := kept_cell (W := wq) (p := ⟨g, j * 7, none⟩) vg v0
      have xx1 := kept_cell (W := wq) (p := ⟨g, j * 7 + 1, none⟩) vg v1
      have xx2 := kept_cell (W := wq) (p := ⟨g, j * 7 + 2, none⟩) vg v2
      have xx3 := kept_cell (W := wq) (p := ⟨g, j * 7 + 3, none⟩) vg v3
      have xx4 := kept_cell (W := wq) (p := ⟨g, j * 7 + 4, none⟩) vg v4
      have xx5 := kept_cell (W := wq) (p := ⟨g, j * 7 + 5, none⟩) vg v5
      have xx6 := kept_cell (W := wq) (p := ⟨g, j * 7 + 6, none⟩) vg v6
      have cc3 := kept_cell (W := wq) (unhide H).box.lt ((unhide H).box.at (o := 3) (v := .int .i64 t) rfl)
      have ne : Nonempty (Kept wq) := ⟨⟨wq, Below.refl _ _⟩⟩
      have qo := hide (fun (q : Kept wq) => show Calls Tryd.prog 32 #[.pointer (some ⟨b, 0, none⟩), .agg #[.slice (some ⟨p.g, 0, none⟩) (pn + 1) p.c, .string p.s.user, .string d, .int .i64 p.s.level, .int .i64 p.s.login, .int .i64 p.s.last, .bool false], .int .i64 t] q.w (fun e w' => e = .returned (.bool false) ∧ Below q.w.heap.size q.w w') from by
        have q1 := sOver_any b (pn + 1) p.c (some ⟨p.g, 0, none⟩) ka kl kc { x with now := t } p.s _ t q.w ((unhide H).box.keep q.h) hkx.lg hkx.la ⟨(by have q5 := hOK.id.1; show (0 : Int) ≤ x.idle; omega), hOK.id.2⟩ ⟨(by have q5 := hOK.mo.1; show (0 : Int) ≤ x.most; omega), hOK.mo.2⟩
        unfold xV at q1
        rw [show overS { x with now := t } p.s t = overS x p.s t from rfl, hov, hdead, hdev] at q1
        exact q1)
      clear hkx
      go_upto_region 33 with fail
      refine wp_region_kept (by kernel_rfl) (by kernel_rfl) ?_
      repeat (first
        | go_big_quiet_step ((go_at_call 32; with_reducible exact kept_call (unhide qo _)))
        | quiet_step ((go_at_call 32; with_reducible exact kept_call (unhide qo _))))
      refine wpQuiet_nil ?_
      rintro _ ⟨q, rfl⟩
      obtain ⟨wo, hwo⟩ : ∃ W, W = q.w := ⟨_, rfl⟩
      have hbo : Below wq.heap.size wq wo := by rw [hwo]; exact q.h
      rw [← hwo]
      clear hwo q qo xx0 xx1 xx2 xx3 xx4 xx5 xx6 cc3 ne v0 v1 v2 v3 v4 v5 v6 vg
      replace RE := hide ((unhide RE).keep hbo)
      replace RP := hide ((unhide RP).keep hbo)
      replace TC := hide ((unhide TC).trans ((unhide H).tch hbo))
      replace H := hide ((unhide H).keep hbo)
      replace QH := hide ((unhide QH).keep hbo)
      clear hbo
      have HC : ∀ {o : Nat} {y : Value}, (encP p)[o]? = some y → wo.cell? ⟨g, j * 7 + o, none⟩ = some y := fun {o y} e => (unhide QH).cells hj (by rw [unhide HP]; exact e)
      have v5 := HC (o := 5) (y := (.int .i64 p.s.last)) rfl
      have vg : g < wo.heap.size := ((unhide QH).row.lt g rfl).2
      clear HC
      have c3 := (unhide H).box.at (o := 3) (v := .int .i64 t) rfl
      have cz := (unhide H).box.lt
      have fg := (unhide QH).row.frozenAt (j * 7 + 5)
      obtain ⟨w7, hw7⟩ : ∃ W, W = wo.setCell ⟨g, j * 7 + 5, none⟩ (.int .i64 t) := ⟨_, rfl⟩
      have HW := hide hw7.symm
      have EX : encP ⟨{ p.s with last := t }, p.g, p.c⟩ = (encP p).set 5 (.int .i64 t) := rfl
      have Q2 := hide (show SpAt w0 w7 b ka kl kc { x with now := t, list := x.list.set j { p.s with last := t } } (.slice (some ⟨g, 0, none⟩) P.length vc) (P.set j ⟨{ p.s with last := t }, p.g, p.c⟩) by
        rw [hw7]
        have q := (unhide QH).setX hj 5 (.int .i64 t) { p.s with last := t } (by omega) (by rw [unhide HP]; exact EX) (by rw [unhide HP])
        rw [unhide HP] at q
        exact q)
      have gb : w.heap.size ≠ g := fun e => by
        obtain ⟨C, hC⟩ := own_is (unhide QH).row (g := g) rfl
        have q := unhide RE
        unfold RowIs at q
        rw [e, hC] at q
        simp at q
      have gb2 : w.heap.size + 1 ≠ g := fun e => by
        obtain ⟨C, hC⟩ := own_is (unhide QH).row (g := g) rfl
        have q := unhide RP
        unfold RowIs at q
        rw [e, hC] at q
        simp at q
      have RE' := hide (show RowIs w7 w.heap.size _ 34 by rw [hw7]; exact (unhide RE).setOther _ gb)
      have RP' := hide (show RowIs w7 (w.heap.size + 1) rp0 31 by rw [hw7]; exact (unhide RP).setOther _ gb2)
      have TC' := hide (show Tch St b w w7 by rw [hw7]; exact (unhide TC).trans ((unhide QH).tchX _ _))
      clear hw7 EX
      go_upto_region 36 with fail
      refine wp_world (unhide HW) ?_
      clear HW RE RP TC H QH gb gb2 fg
      have RE := RE'
      have RP := RP'
      have TC := TC'
      have H := Q2
      clear RE' RP' TC' Q2
      clear v5 vg c3 cz
      obtain ⟨P2, hP2⟩ : ∃ q, q = P.set j ⟨{ p.s with last := t }, p.g, p.c⟩ := ⟨_, rfl⟩
      have hl2 : P2.length = P.length := by rw [hP2]; simp
      have hj2 : j < P2.length := by rw [hl2]; exact hj
      have HP2 : P2[j] = ⟨{ p.s with last := t }, p.g, p.c⟩ := by subst hP2; simp
      rw [← hP2, ← hl2] at H
      have HQ := hide HP2
      have QH := H
      clear hP2 hl2 HP2
      have e0 := (unhide RE).at (o := 0) (v := .int .i64 k) rfl
      have ez := (unhide RE).lt
      have nk3 : (k == 3) = false := by simp [unhide hk4]
      have nk4 : (k == 4) = true := by simp [unhide hk4]
      have HC : ∀ {o : Nat} {y : Value}, (encP ⟨{ p.s with last := t }, p.g, p.c⟩)[o]? = some y → w7.cell? ⟨g, j * 7 + o, none⟩ = some y := fun {o y} e => (unhide QH).cells hj2 (by rw [unhide HQ]; exact e)
      have v6 := HC (o := 6) (y := (.bool p.s.dead)) rfl
      have vg : g < w7.heap.size := ((unhide QH).row.lt g rfl).2
      clear HC
      rw [hdead] at v6
      have fg := (unhide QH).row.frozenAt (j * 7 + 6)
      obtain ⟨w8, hw8⟩ : ∃ W, W = w7.setCell ⟨g, j * 7 + 6, none⟩ (.bool true) := ⟨_, rfl⟩
      have HW := hide hw8.symm
      have EX : encP ⟨{ p.s with last := t, dead := true }, p.g, p.c⟩ = (encP ⟨{ p.s with last := t }, p.g, p.c⟩).set 6 (.bool true) := rfl
      have Q2 := hide (show SpAt w0 w8 b ka kl kc { x with now := t, list := x.list.set j { p.s with last := t, dead := true } } (.slice (some ⟨g, 0, none⟩) P2.length vc) (P2.set j ⟨{ p.s with last := t, dead := true }, p.g, p.c⟩) by
        rw [hw8]
        have q := (unhide QH).setX hj2 6 (.bool true) { p.s with last := t, dead := true } (by omega) (by rw [unhide HQ]; exact EX) (by rw [unhide HQ])
        rw [unhide HQ] at q
        simp only [List.set_set] at q
        exact q)
      have gb : w.heap.size ≠ g := fun e => by
        obtain ⟨C, hC⟩ := own_is (unhide QH).row (g := g) rfl
        have q := unhide RE
        unfold RowIs at q
        rw [e, hC] at q
        simp at q
      have gb2 : w.heap.size + 1 ≠ g := fun e => by
        obtain ⟨C, hC⟩ := own_is (unhide QH).row (g := g) rfl
        have q := unhide RP
        unfold RowIs at q
        rw [e, hC] at q
        simp at q
      have RE' := hide (show RowIs w8 w.heap.size _ 34 by rw [hw8]; exact (unhide RE).setOther _ gb)
      have RP' := hide (show RowIs w8 (w.heap.size + 1) rp0 31 by rw [hw8]; exact (unhide RP).setOther _ gb2)
      have TC' := hide (show Tch St b w w8 by rw [hw8]; exact (unhide TC).trans ((unhide QH).tchX _ _))
      clear hw8 EX
      clear hk4
      go_upto_region 42 with fail
      refine wp_world (unhide HW) ?_
      clear v6 vg e0 ez nk3 nk4 HW RE RP TC H QH gb gb2 fg
      have RE := RE'
      have RP := RP'
      have TC := TC'
      have H := Q2
      clear RE' RP' TC' Q2
      obtain ⟨P3, hP3⟩ : ∃ q, q = P2.set j ⟨{ p.s with last := t, dead := true }, p.g, p.c⟩ := ⟨_, rfl⟩
      have hl3 : P3.length = P2.length := by rw [hP3]; simp
      have hj3 : j < P3.length := by rw [hl3]; exact hj2
      have HP3 : P3[j] = ⟨{ p.s with last := t, dead := true }, p.g, p.c⟩ := by subst hP3; simp
      rw [← hP3, ← hl3] at H
      clear HQ
      have HQ := hide HP3
      have QH := H
      clear hP3 hl3 HP3
      have hj2 := hj3
      have HC : ∀ {o : Nat} {y : Value}, (encP ⟨{ p.s with last := t, dead := true }, p.g, p.c⟩)[o]? = some y → w8.cell? ⟨g, j * 7 + o, none⟩ = some y := fun {o y} e => (unhide QH).cells hj2 (by rw [unhide HQ]; exact e)
      have v0 := HC (o := 0) (y := (.slice (some ⟨p.g, 0, none⟩) p.s.ids.length p.c)) rfl
      rw [Nat.add_zero, unhide HPN] at v0
      have v1 := HC (o := 1) (y := (.string p.s.user)) rfl
      have v2 := HC (o := 2) (y := (.string p.s.device)) rfl
      have v3 := HC (o := 3) (y := (.int .i64 p.s.level)) rfl
      have v4 := HC (o := 4) (y := (.int .i64 p.s.login)) rfl
      have v5 := HC (o := 5) (y := (.int .i64 t)) rfl
      have v6 := HC (o := 6) (y := (.bool true)) rfl
      have vg : g < w8.heap.size := ((unhide QH).row.lt g rfl).2
      clear HC
      have qt := hide (show Calls Tryd.prog 33 #[.agg #[.slice (some ⟨p.g, 0, none⟩) (pn + 1) p.c, .string p.s.user, .string d, .int .i64 p.s.level, .int .i64 p.s.login, .int .i64 t, .bool true]] w8 (fun e w' => e = .returned (.agg #[.int .i64 0, .string i, .string p.s.user, .int .i64 p.s.level]) ∧ Below w8.heap.size w8 w') from by
        have id0 := (unhide QH).ids j hj2
        rw [unhide HQ] at id0
        have q1 := sTold_any p.g (pn + 1) p.c { p.s with last := t, dead := true } w8 (unhide HPN).symm (unhide OP).ne (by omega) ((id0.lt p.g rfl).2) (by
          rw [id0.cellAt _ (by show pn + 1 - 1 < p.s.ids.length * 1; rw [unhide HPN]; omega)]
          have q := lastI_get (unhide OP).ne
          rw [unhide HPN] at q
          show (p.s.ids.map Value.string)[pn + 1 - 1]? = some (.string (lastI p.s.ids))
          rw [List.getElem?_map, q]; rfl)
        rw [show encR (toldR { p.s with last := t, dead := true }) = #[.int .i64 0, .string (lastI p.s.ids), .string p.s.user, .int .i64 p.s.level] from rfl, hlast] at q1
        unfold xV at q1
        rw [show ({ p.s with last := t, dead := true } : SxT).device = p.s.device from rfl, hdev] at q1
        skip
        exact q1)
      rw [hdev] at v2
      go_wp2_with fail
      refine (unhide qt).mono ?_
      rintro e w9 ⟨rfl, hb9⟩
      clear qt v0 v1 v2 v3 v4 v5 v6 vg
      replace RE := hide ((unhide RE).keep hb9)
      replace RP := hide ((unhide RP).keep hb9)
      replace TC := hide ((unhide TC).trans ((unhide H).tch hb9))
      replace H := hide ((unhide H).keep hb9)
      replace QH := hide ((unhide QH).keep hb9)
      clear hb9
      have r0 := (unhide RP).at (o := 0) (v := .int .i64 0) rfl
      have f0 := (unhide RP).froz 0
      have r1 := (unhide RP).at (o := 1) (v := .string ⟨#[]⟩) rfl
      have f1 := (unhide RP).froz 1
      have r2 := (unhide RP).at (o := 2) (v := .string ⟨#[]⟩) rfl
      have f2 := (unhide RP).froz 2
      have r3 := (unhide RP).at (o := 3) (v := .int .i64 0) rfl
      have f3 := (unhide RP).froz 3
      have rz := (unhide RP).lt
      go_wp2_with fail
      try simp only [Exit.inBlock, Exit.then]
      have qe := fun (n f3 : Int) (f1 f2 : ByteArray) => SpAt.end4 (n := n) (f1 := f1) (f2 := f2) (f3 := f3) (unhide H) (unhide RP) (unhide TC) hbz
      refine bodyPost_ret (ret_reply (fn := Tryd.f47) rfl _ _ (w.heap.size + 1) (encR ⟨_, _, _, _⟩) rfl rfl (qe _ _ _ _).1) rfl ⟨?_, ?_⟩
      · rw [unhide HRR]
      · rw [unhide HXX]; exact (qe _ _ _ _).2
end Go.Proofs.YtppkgcedkdeccaaDoor
/- Sessions: the specification's do: sign out everywhere. -/
namespace Go.Proofs.YtppkgcedkdeccaaDoor
set_option linter.unusedSimpArgs false
set_option linter.unusedVariables false
set_option maxRecDepth 20000
open Go.RowKit Go.Maps


open Classical in
noncomputable def killS (u : ByteArray) (s : SxT) : SxT := if s.user = u then { s with dead := true } else s
theorem killAll_is (u : ByteArray) (l : List SxT) : killAll u l = l.map (killS u) := by
  unfold killAll killS
  rfl
theorem killS_yes {u : ByteArray} {s : SxT} (h : s.user = u) : killS u s = { s with dead := true } := by unfold killS; rw [if_pos h]
theorem killS_no {u : ByteArray} {s : SxT} (h : ¬ s.user = u) : killS u s = s := by unfold killS; rw [if_neg h]
structure KlR (w0 w : World) (b : Nat) (ka : Option Addr) (kl kc : Nat) (x : SsT) (k t : Int) (u d i : ByteArray) (va : Option Addr) (vc : Nat) (P : List PxT) (m : Nat) (w' : World) (Pm : List PxT) : Prop where
  len : Pm.length = P.length
  sp : SpAt w0 w' b ka kl kc { x with now := t, list := Pm.map (·.s) } (.slice va Pm.length vc) Pm
  upd : ∀ q (h : q < P.length) (h' : q < Pm.length), Pm[q] = if q < m then ⟨killS u P[q].s, P[q].g, P[q].c⟩ else P[q]
  tc : Tch St b w w'
  re : RowIs w' w.heap.size #[.int .i64 k, .int .i64 t, .string u, .string d, .string i] 34
  rp : RowIs w' (w.heap.size + 1) rp0 31
set_option maxHeartbeats 8000000 in
theorem do_all {w0 : World} {b : Nat} {ka : Option Addr} {kl kc : Nat} {x : SsT} {v : Value} {P : List PxT} (k t : Int) (u d i : ByteArray) (w : World) (h : SpAt w0 w b ka kl kc x v P) (hu : u.size ≤ maxLen) (hd : d.size ≤ maxLen) (hi : i.size ≤ maxLen) (hOK : OkS x) (hf : fitE k t u d i = true) (hnt : x.now ≤ t) (hk5 : Hid (k = 5)) :
    Calls Tryd.prog 47 #[.pointer (some ⟨b, 0, none⟩), .agg #[.int .i64 k, .int .i64 t, .string u, .string d, .string i]] w (DoQ w0 w b ka kl kc ({ x with now := t, list := killAll u x.list }) (⟨0, ⟨#[]⟩, u, 0⟩)) := by
  have HOL := h.lenP hOK
  have HOK : OkS { x with now := t } := ⟨fit_t hf, hOK.ln, hOK.gv, hOK.all, hOK.id, hOK.mo⟩
  have hbz := h.box.lt
  have nSE : ¬ St 34 := by unfold St; decide
  have nSR : ¬ St 31 := by unfold St; decide
  obtain ⟨W1, hW1⟩ : ∃ W, W = w.alloc (.cells #[.int .i64 k, .int .i64 t, .string u, .string d, .string i] 34) := ⟨_, rfl⟩
  obtain ⟨W2, hW2⟩ : ∃ W, W = W1.alloc (.cells #[.int .i64 0, .string ⟨#[]⟩, .string ⟨#[]⟩, .int .i64 0] 31) := ⟨_, rfl⟩
  have z1 : W1.heap.size = w.heap.size + 1 := by rw [hW1]; simp
  have b1 : Below w.heap.size w W1 := by rw [hW1]; exact bAl (Below.refl _ _) _
  have b2 : Below W1.heap.size W1 W2 := by rw [hW2]; exact bAl (Below.refl _ _) _
  have RE := hide ((show RowIs W1 w.heap.size #[.int .i64 k, .int .i64 t, .string u, .string d, .string i] 34 by rw [hW1]; exact RowIs.new _ _ _).keep b2)
  have RP := hide (show RowIs W2 (w.heap.size + 1) rp0 31 by rw [hW2, ← z1]; exact RowIs.new _ _ _)
  have H := hide ((h.keep b1).keep b2)
  have TC := hide (h.tch (bTr b1 b2))
  rw [hW1] at hW2
  have HW2 := hide hW2.symm
  have HLO := hide h.lo
  clear hW1 hW2 z1 b1 b2 h
  have qb := hide (sBad_any k t u d i W2 hu hd)
  rw [hf] at qb
  simp only [Bool.not_true, Bool.not_false] at qb
  have e0 := (unhide RE).at (o := 0) (v := .int .i64 k) rfl
  have e1 := (unhide RE).at (o := 1) (v := .int .i64 t) rfl
  have e2 := (unhide RE).at (o := 2) (v := .string u) rfl
  have e3 := (unhide RE).at (o := 3) (v := .string d) rfl
  have e4 := (unhide RE).at (o := 4) (v := .string i) rfl
  have ez := (unhide RE).lt
  go_enter Tryd.func47, Tryd.ntmps47
  go_upto_region 1 with fail
  refine wp_world (unhide HW2) ?_
  clear HW2
  go_wp2_with fail
  refine (unhide qb).mono ?_
  rintro e w3 ⟨rfl, hb3⟩
  replace RE := hide ((unhide RE).keep hb3)
  replace RP := hide ((unhide RP).keep hb3)
  replace TC := hide ((unhide TC).trans ((unhide H).tch hb3))
  replace H := hide ((unhide H).keep hb3)
  clear hb3
  clear e0 e1 e2 e3 e4 ez
  clear qb
  have c3 := (unhide H).box.at (o := 3) (v := .int .i64 x.now) rfl
  have cz := (unhide H).box.lt
  have nt : ¬ t < x.now := by omega
  have e0 := (unhide RE).at (o := 0) (v := .int .i64 k) rfl
  have e1 := (unhide RE).at (o := 1) (v := .int .i64 t) rfl
  have e2 := (unhide RE).at (o := 2) (v := .string u) rfl
  have e3 := (unhide RE).at (o := 3) (v := .string d) rfl
  have e4 := (unhide RE).at (o := 4) (v := .string i) rfl
  have ez := (unhide RE).lt
  go_upto_region 3 with fail
  go_region
  go_upto_region 5 with fail
  obtain ⟨w4, hw4⟩ : ∃ W, W = w3.drew := ⟨_, rfl⟩
  refine wp_world hw4.symm ?_
  have hb4 : Below w3.heap.size w3 w4 := by rw [hw4]; exact (Below.refl _ _).drew
  clear c3 cz nt hw4
  clear e0 e1 e2 e3 e4 ez
  replace RE := hide ((unhide RE).keep hb4)
  replace RP := hide ((unhide RP).keep hb4)
  replace TC := hide ((unhide TC).trans ((unhide H).tch hb4))
  replace H := hide ((unhide H).keep hb4)
  clear hb4
  have e0 := (unhide RE).at (o := 0) (v := .int .i64 k) rfl
  have e1 := (unhide RE).at (o := 1) (v := .int .i64 t) rfl
  have e2 := (unhide RE).at (o := 2) (v := .string u) rfl
  have e3 := (unhide RE).at (o := 3) (v := .string d) rfl
  have e4 := (unhide RE).at (o := 4) (v := .string i) rfl
  have ez := (unhide RE).lt
  have c3 := (unhide H).box.at (o := 3) (v := .int .i64 x.now) rfl
  have f3 := (unhide H).box.froz 3
  have cz := (unhide H).box.lt
  obtain ⟨w5, hw5⟩ : ∃ W, W = w4.setCell ⟨b, 3, none⟩ (.int .i64 t) := ⟨_, rfl⟩
  have HW5 := hide hw5.symm
  have z5 : w5.heap.size = w4.heap.size := by rw [hw5]; simp [World.setCell]
  have nb1 : w.heap.size ≠ b := by omega
  have nb2 : w.heap.size + 1 ≠ b := by omega
  have RE' := hide (show RowIs w5 w.heap.size _ 34 by rw [hw5]; exact (unhide RE).setOther _ nb1)
  have RP' := hide (show RowIs w5 (w.heap.size + 1) rp0 31 by rw [hw5]; exact (unhide RP).setOther _ nb2)
  have TC' := hide (show Tch St b w w5 by rw [hw5]; exact (unhide TC).trans ((unhide H).tchB _ _))
  have H' := hide (show SpAt w0 w5 b ka kl kc { x with now := t } v P by rw [hw5]; exact (unhide H).setBox 3 _ _ _ rfl rfl rfl)
  clear hw5
  go_upto_region 6 with fail
  refine wp_world (unhide HW5) ?_
  clear HW5 RE RP TC H c3 f3 cz
  clear e0 e1 e2 e3 e4 ez
  have RE := RE'
  have RP := RP'
  have TC := TC'
  have H := H'
  clear RE' RP' TC' H' z5 nb1 nb2
  obtain ⟨va, vc, rfl, hform⟩ := (unhide H).slice
  have HF := hide hform
  clear hform
  obtain ⟨n, hn⟩ : ∃ n, P.length = n := ⟨_, rfl⟩
  have n1000 : n ≤ 1000 := by rw [← hn]; exact HOL
  have HN := hide hn
  have EL := hide (unhide H).lst
  have nk1 : (k == 1) = false := by simp [unhide hk5]
  have nk5 : (k == 5) = true := by simp [unhide hk5]
  have KL := hide (show KlR w0 w b ka kl kc x k t u d i va vc P 0 w5 P from ⟨rfl, by have q := unhide H; have q2 := unhide EL; dsimp only at q2; rw [← q2]; exact q, fun q h h' => by rw [if_neg (by omega)], unhide TC, unhide RE, unhide RP⟩)
  have e0 := (unhide RE).at (o := 0) (v := .int .i64 k) rfl
  have e1 := (unhide RE).at (o := 1) (v := .int .i64 t) rfl
  have e2 := (unhide RE).at (o := 2) (v := .string u) rfl
  have e3 := (unhide RE).at (o := 3) (v := .string d) rfl
  have e4 := (unhide RE).at (o := 4) (v := .string i) rfl
  have ez := (unhide RE).lt
  have c5 := (unhide H).box.at (o := 5) (v := .slice va P.length vc) rfl
  have cz := (unhide H).box.lt
  rw [hn] at c5
  clear hn
  go_wp2_with fail
  go_loopw [6, 66] (fun _ q w' => ∃ (m : Nat) (Pm : List PxT), m ≤ n ∧ q = .int .i64 m ∧ Hid (KlR w0 w b ka kl kc x k t u d i va vc P m w' Pm)) (fun _ q _ => n - (intOf q).toNat)
  case atStart => exact ⟨0, P, Nat.zero_le _, rfl, KL⟩
  case round =>
    obtain ⟨m, Pm, hm, rfl, hK⟩ := hrel
    clear KL H RE RP TC c5 cz e0 e1 e2 e3 e4 ez
    by_cases hlt : m < n
    · have hmP : m < P.length := by rw [unhide HN]; exact hlt
      have hmQ : m < Pm.length := by rw [(unhide hK).len]; exact hmP
      obtain ⟨g, rfl, _, _⟩ := unhide HF (by omega)
      obtain ⟨p, hp⟩ : ∃ p, P[m] = p := ⟨_, rfl⟩
      have EQ := hide (show Pm[m] = p by rw [(unhide hK).upd m hmP hmQ, if_neg (by omega)]; exact hp)
      have LN := hide (show Pm.length = n by rw [(unhide hK).len]; exact unhide HN)
      have c5 := (unhide hK).sp.box.at (o := 5) (v := .slice (some ⟨g, 0, none⟩) Pm.length vc) rfl
      rw [unhide LN] at c5
      have cz := (unhide hK).sp.box.lt
      have v1 := (unhide hK).sp.cells hmQ (j := 1) (u := .string p.s.user) (by rw [unhide EQ]; rfl)
      have v6 := (unhide hK).sp.cells hmQ (j := 6) (u := .bool p.s.dead) (by rw [unhide EQ]; rfl)
      have f6 := (unhide hK).sp.row.frozenAt (m * 7 + 6)
      have vg : g < wr.heap.size := ((unhide hK).sp.row.lt g rfl).2
      have e2 := (unhide hK).re.at (o := 2) (v := .string u) rfl
      have ez := (unhide hK).re.lt
      have BD : Below wr.heap.size wr wr.drew := (Below.refl _ _).drew
      by_cases hus : p.s.user = u
      · have s1 := V.str_eqY u
        rw [hus] at v1
        go_upto_region 14 with fail
        go_region
        go_upto_region 15 with fail
        obtain ⟨w6, hw6⟩ : ∃ W, W = wr.drew := ⟨_, rfl⟩
        refine wp_world hw6.symm ?_
        have K6 := hide (show KlR w0 w b ka kl kc x k t u d i (some ⟨g, 0, none⟩) vc P m w6 Pm by
          rw [hw6]
          have q := unhide hK
          exact ⟨q.len, q.sp.keep BD, q.upd, q.tc.trans (q.sp.tch BD), q.re.keep BD, q.rp.keep BD⟩)
        clear hw6 BD c5 cz v1 v6 f6 vg e2 ez s1 hK
        have c5 := (unhide K6).sp.box.at (o := 5) (v := .slice (some ⟨g, 0, none⟩) Pm.length vc) rfl
        rw [unhide LN] at c5
        have cz := (unhide K6).sp.box.lt
        have v6 := (unhide K6).sp.cells hmQ (j := 6) (u := .bool p.s.dead) (by rw [unhide EQ]; rfl)
        have f6 := (unhide K6).sp.row.frozenAt (m * 7 + 6)
        have vg : g < w6.heap.size := ((unhide K6).sp.row.lt g rfl).2
        go_wp2_with fail
        refine ⟨⟨m + 1, Pm.set m ⟨{ p.s with dead := true }, p.g, p.c⟩, by omega, by go_num, hide ?_⟩, by simp [intOf]; omega⟩
        have q := unhide K6
        have gb : w.heap.size ≠ g := fun e => by
          obtain ⟨C, hC⟩ := own_is q.sp.row (g := g) rfl
          have q2 := q.re
          unfold RowIs at q2
          rw [e, hC] at q2
          simp at q2
        have gb2 : w.heap.size + 1 ≠ g := fun e => by
          obtain ⟨C, hC⟩ := own_is q.sp.row (g := g) rfl
          have q2 := q.rp
          unfold RowIs at q2
          rw [e, hC] at q2
          simp at q2
        have sx := q.sp.setX hmQ 6 (.bool true) { p.s with dead := true } (by omega) (by rw [unhide EQ]; rfl) (by rw [unhide EQ])
        rw [unhide EQ] at sx
        refine ⟨by simp [q.len], ?_, ?_, q.tc.trans (q.sp.tchX _ _), q.re.setOther _ gb, q.rp.setOther _ gb2⟩
        · have e9 : (Pm.map (·.s)).set m { p.s with dead := true } = (Pm.set m ⟨{ p.s with dead := true }, p.g, p.c⟩).map (·.s) := by rw [List.map_set]
          simp only [List.length_set]
          rw [← e9]
          exact sx
        · intro r hr hr'
          rw [List.getElem_set]
          by_cases e : m = r
          · subst e
            rw [if_pos rfl, if_pos (by omega), hp, killS_yes hus]
          · rw [if_neg e, q.upd r hr (by simpa using hr')]
            by_cases e2 : r < m
            · rw [if_pos e2, if_pos (by omega)]
            · rw [if_neg e2, if_neg (by omega)]
      · have s1 := V.str_neY hus
        go_upto_region 14 with fail
        go_region
        go_wp2_with fail
        refine ⟨⟨m + 1, Pm, by omega, by go_num, hide ?_⟩, by simp [intOf]; omega⟩
        have q := unhide hK
        refine ⟨q.len, q.sp.keep BD, fun r hr hr' => ?_, q.tc.trans (q.sp.tch BD), q.re.keep BD, q.rp.keep BD⟩
        rw [q.upd r hr hr']
        by_cases e2 : r < m
        · rw [if_pos e2, if_pos (by omega)]
        · by_cases e : r = m
          · subst e
            rw [if_neg e2, if_pos (by omega), hp, killS_no hus]
          · rw [if_neg e2, if_neg (by omega)]
    · have em : m = n := by omega
      subst em
      have RE := hide (unhide hK).re
      have RP := hide (unhide hK).rp
      have TC := hide (unhide hK).tc
      have EM : Pm.map (·.s) = killAll u x.list := by
        have q2 : x.list = P.map (·.s) := unhide EL
        rw [q2, killAll_is, List.map_map]
        refine List.ext_getElem (by simp [(unhide hK).len]) fun r h1 h2 => ?_
        have h3 : r < P.length := by simpa using h2
        have h4 : r < Pm.length := by simpa using h1
        rw [List.getElem_map, List.getElem_map, (unhide hK).upd r h3 h4, if_pos (by have := unhide HN; omega)]
        rfl
      have H := hide (show SpAt w0 wr b ka kl kc { x with now := t, list := killAll u x.list } (.slice va Pm.length vc) Pm by rw [← EM]; exact (unhide hK).sp)
      have e2 := (unhide RE).at (o := 2) (v := .string u) rfl
      have ez := (unhide RE).lt
      clear EM hK
      have r0 := (unhide RP).at (o := 0) (v := .int .i64 0) rfl
      have f0 := (unhide RP).froz 0
      have r1 := (unhide RP).at (o := 1) (v := .string ⟨#[]⟩) rfl
      have f1 := (unhide RP).froz 1
      have r2 := (unhide RP).at (o := 2) (v := .string ⟨#[]⟩) rfl
      have f2 := (unhide RP).froz 2
      have r3 := (unhide RP).at (o := 3) (v := .int .i64 0) rfl
      have f3 := (unhide RP).froz 3
      have rz := (unhide RP).lt
      go_wp2_with fail
      try simp only [Exit.inBlock, Exit.then]
      have qe := fun (n f3 : Int) (f1 f2 : ByteArray) => SpAt.end4 (n := n) (f1 := f1) (f2 := f2) (f3 := f3) (unhide H) (unhide RP) (unhide TC) hbz
      exact bodyPost_ret (ret_reply (fn := Tryd.f47) rfl _ _ (w.heap.size + 1) (encR ⟨_, _, _, _⟩) rfl rfl (qe _ _ _ _).1) rfl ⟨rfl, (qe _ _ _ _).2⟩
end Go.Proofs.YtppkgcedkdeccaaDoor
