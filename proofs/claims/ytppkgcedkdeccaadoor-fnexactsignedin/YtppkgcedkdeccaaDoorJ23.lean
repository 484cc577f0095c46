/- LSq, LSr, LSs, one behind the other. -/
import Derived.Test.YtppkgcedkdeccaaDoorJ22
import Derived.BigQuiet
import Derived.Deep.AppendLies
import Derived.Deep.RegionLawGrows
import Derived.Test.YtppkgcedkdeccaaDoorJ18
import Derived.Laws.AppendOwn
import Derived.OwnWalk
/- Sessions: the specification's do: a raise. -/
namespace Go.Proofs.YtppkgcedkdeccaaDoor
set_option linter.unusedSimpArgs false
set_option linter.unusedVariables false
set_option maxRecDepth 20000
open Go.RowKit Go.Maps

theorem own_grown {W w4 : World} {base e size n r : Nat} {v : Value} {xs : List Value} (h : W.ownsRow base e size v n xs) (hg : W.grownBy w4 (some r)) (hne : ∀ k, v.ownBlock = some k → k ≠ r) : w4.ownsRow base e size v n xs :=
  own_blk h (fun k hk => hg.block k (h.lt k hk).2 (fun q => hne k hk (Option.some.inj q)))
theorem own_apart {W : World} {base e size n base2 e2 size2 n2 r c : Nat} {v : Value} {xs ys : List Value} (h : W.ownsRow base e size v n xs) (h2 : W.ownsRow base2 e2 size2 (.slice (some ⟨r, 0, none⟩) n2 c) n2 ys) (hne : e ≠ e2) : ∀ k, v.ownBlock = some k → k ≠ r := by
  rintro k hk rfl
  obtain ⟨C, hC⟩ := own_is h hk
  obtain ⟨C2, hC2⟩ := own_is h2 (g := k) rfl
  rw [hC] at hC2
  cases hC2
  exact hne rfl
set_option maxHeartbeats 8000000 in
theorem do_raise {w0 : World} {b : Nat} {ka : Option Addr} {kl kc : Nat} {x : SsT} {v : Value} {P : List PxT} (k t : Int) (u d i : ByteArray) (w : World) (h : SpAt w0 w b ka kl kc x v P) (hu : u.size ≤ maxLen) (hd : d.size ≤ maxLen) (hi : i.size ≤ maxLen) (hOK : OkS x) (hK : D.SlB w0 w0.heap.size ka kl x.key) (hKl : kl ≤ 1048576) (hf : fitE k t u d i = true) (hnt : x.now ≤ t) (hk3 : Hid (k = 3)) (hk1 : ¬ k = 1) (hk5 : ¬ k = 5) (j : Nat) (hj : j < P.length) (hfind : findI (idsL x.list) i = some j) (hdev : P[j].s.device = d) (hlast : lastI P[j].s.ids = i) (hdead : P[j].s.dead = false) (hov : overS x P[j].s t = false) :
    Calls Tryd.prog 47 #[.pointer (some ⟨b, 0, none⟩), .agg #[.int .i64 k, .int .i64 t, .string u, .string d, .string i]] w (DoQ w0 w b ka kl kc ({ x with now := t, given := x.given + 1, list := x.list.set j (raised { P[j].s with last := t, level := min (P[j].s.level + 1) 9 } (idOf x.key (x.given + 1))) }) (⟨0, idOf x.key (x.given + 1), P[j].s.user, min (P[j].s.level + 1) 9⟩)) := by
  have HOL := h.lenP hOK
  have HOK : OkS { x with now := t } := ⟨fit_t hf, hOK.ln, hOK.gv, hOK.all, hOK.id, hOK.mo⟩
  have hbz := h.box.lt
  have nSE : ¬ St 34 := by unfold St; decide
  have nSR : ¬ St 31 := by unfold St; decide
  obtain ⟨W1, hW1⟩ : ∃ W, W = w.alloc (.cells #[.int .i64 k, .int .i64 t, .string u, .string d, .string i] 34) := ⟨_, rfl⟩
  obtain ⟨W2, hW2⟩ : ∃ W, W = W1.alloc (.cells #[.int .i64 0, .string ⟨#[]⟩, .string ⟨#[]⟩, .int .i64 0] 31) := ⟨_, rfl⟩
  have z1 : W1.heap.size = w.heap.size + 1 := by rw [hW1]; simp
  have b1 : Below w.heap.size w W1 := by rw [hW1]; exact bAl (Below.refl _ _) _
  have b2 : Below W1.heap.size W1 W2 := by rw [hW2]; exact bAl (Below.refl _ _) _
  have RE := hide ((show RowIs W1 w.heap.size #[.int .i64 k, .int .i64 t, .string u, .string d, .string i] 34 by rw [hW1]; exact RowIs.new _ _ _).keep b2)
  have RP := hide (show RowIs W2 (w.heap.size + 1) rp0 31 by rw [hW2, ← z1]; exact RowIs.new _ _ _)
  have H := hide ((h.keep b1).keep b2)
  have TC := hide (h.tch (bTr b1 b2))
  rw [hW1] at hW2
  have HW2 := hide hW2.symm
  have HLO := hide h.lo
  clear hW1 hW2 z1 b1 b2 h
  have qb := hide (sBad_any k t u d i W2 hu hd)
  rw [hf] at qb
  simp only [Bool.not_true, Bool.not_false] at qb
  have e0 := (unhide RE).at (o := 0) (v := .int .i64 k) rfl
  have e1 := (unhide RE).at (o := 1) (v := .int .i64 t) rfl
  have e2 := (unhide RE).at (o := 2) (v := .string u) rfl
  have e3 := (unhide RE).at (o := 3) (v := .string d) rfl
  have e4 := (unhide RE).at (o := 4) (v := .string i) rfl
  have ez := (unhide RE).lt
  go_enter Tryd.func47, Tryd.ntmps47
  go_upto_region 1 with fail
  refine wp_world (unhide HW2) ?_
  clear HW2
  go_wp2_with fail
  refine (unhide qb).mono ?_
  rintro e w3 ⟨rfl, hb3⟩
  replace RE := hide ((unhide RE).keep hb3)
  replace RP := hide ((unhide RP).keep hb3)
  replace TC := hide ((unhide TC).trans ((unhide H).tch hb3))
  replace H := hide ((unhide H).keep hb3)
  clear hb3
  clear e0 e1 e2 e3 e4 ez
  clear qb
  have c3 := (unhide H).box.at (o := 3) (v := .int .i64 x.now) rfl
  have cz := (unhide H).box.lt
  have nt : ¬ t < x.now := by omega
  have e0 := (unhide RE).at (o := 0) (v := .int .i64 k) rfl
  have e1 := (unhide RE).at (o := 1) (v := .int .i64 t) rfl
  have e2 := (unhide RE).at (o := 2) (v := .string u) rfl
  have e3 := (unhide RE).at (o := 3) (v := .string d) rfl
  have e4 := (unhide RE).at (o := 4) (v := .string i) rfl
  have ez := (unhide RE).lt
  go_upto_region 3 with fail
  go_region
  go_upto_region 5 with fail
  obtain ⟨w4, hw4⟩ : ∃ W, W = w3.drew := ⟨_, rfl⟩
  refine wp_world hw4.symm ?_
  have hb4 : Below w3.heap.size w3 w4 := by rw [hw4]; exact (Below.refl _ _).drew
  clear c3 cz nt hw4
  clear e0 e1 e2 e3 e4 ez
  replace RE := hide ((unhide RE).keep hb4)
  replace RP := hide ((unhide RP).keep hb4)
  replace TC := hide ((unhide TC).trans ((unhide H).tch hb4))
  replace H := hide ((unhide H).keep hb4)
  clear hb4
  have e0 := (unhide RE).at (o := 0) (v := .int .i64 k) rfl
  have e1 := (unhide RE).at (o := 1) (v := .int .i64 t) rfl
  have e2 := (unhide RE).at (o := 2) (v := .string u) rfl
  have e3 := (unhide RE).at (o := 3) (v := .string d) rfl
  have e4 := (unhide RE).at (o := 4) (v := .string i) rfl
  have ez := (unhide RE).lt
  have c3 := (unhide H).box.at (o := 3) (v := .int .i64 x.now) rfl
  have f3 := (unhide H).box.froz 3
  have cz := (unhide H).box.lt
  obtain ⟨w5, hw5⟩ : ∃ W, W = w4.setCell ⟨b, 3, none⟩ (.int .i64 t) := ⟨_, rfl⟩
  have HW5 := hide hw5.symm
  have z5 : w5.heap.size = w4.heap.size := by rw [hw5]; simp [World.setCell]
  have nb1 : w.heap.size ≠ b := by omega
  have nb2 : w.heap.size + 1 ≠ b := by omega
  have RE' := hide (show RowIs w5 w.heap.size _ 34 by rw [hw5]; exact (unhide RE).setOther _ nb1)
  have RP' := hide (show RowIs w5 (w.heap.size + 1) rp0 31 by rw [hw5]; exact (unhide RP).setOther _ nb2)
  have TC' := hide (show Tch St b w w5 by rw [hw5]; exact (unhide TC).trans ((unhide H).tchB _ _))
  have H' := hide (show SpAt w0 w5 b ka kl kc { x with now := t } v P by rw [hw5]; exact (unhide H).setBox 3 _ _ _ rfl rfl rfl)
  clear hw5
  go_upto_region 6 with fail
  refine wp_world (unhide HW5) ?_
  clear HW5 RE RP TC H c3 f3 cz
  clear e0 e1 e2 e3 e4 ez
  have RE := RE'
  have RP := RP'
  have TC := TC'
  have H := H'
  clear RE' RP' TC' H' z5 nb1 nb2
  obtain ⟨va, vc, rfl, hform⟩ := (unhide H).slice
  have HF := hide hform
  clear hform
  obtain ⟨n, hn⟩ : ∃ n, P.length = n := ⟨_, rfl⟩
  have n1000 : n ≤ 1000 := by rw [← hn]; exact HOL
  have HN := hide hn
  rw [hn] at H
  clear hn
  have nk1 : (k == 1) = false := by simpa using hk1
  have nk5 : (k == 5) = false := by simpa using hk5
  have e0 := (unhide RE).at (o := 0) (v := .int .i64 k) rfl
  have e1 := (unhide RE).at (o := 1) (v := .int .i64 t) rfl
  have e2 := (unhide RE).at (o := 2) (v := .string u) rfl
  have e3 := (unhide RE).at (o := 3) (v := .string d) rfl
  have e4 := (unhide RE).at (o := 4) (v := .string i) rfl
  have ez := (unhide RE).lt
  have c5 := (unhide H).box.at (o := 5) (v := .slice va n vc) rfl
  have cz := (unhide H).box.lt
  go_wp2_with fail
  go_loopw [7, 96] (fun a q w' => ∃ m : Nat, m ≤ n ∧ q = .int .i64 m ∧ a = .int .i64 (atV (findK (idsL x.list) i m)) ∧ Hid (Below w5.heap.size w5 w')) (fun _ q _ => n - (intOf q).toNat)
  case atStart => exact ⟨0, Nat.zero_le _, rfl, rfl, hide (Below.refl _ _)⟩
  case round =>
    obtain ⟨m, hm, rfl, rfl, hb⟩ := hrel
    have BB := hb
    clear hb
    by_cases hlt : m < n
    · have HR := hide ((unhide H).keep (unhide BB))
      obtain ⟨g, rfl, _, _⟩ := unhide HF (by rw [unhide HN]; omega)
      have hmP : m < P.length := by rw [unhide HN]; exact hlt
      obtain ⟨p, hp⟩ : ∃ p, P[m] = p := ⟨_, rfl⟩
      have HC : ∀ {j : Nat} {y : Value}, (encP p)[j]? = some y → wr.cell? ⟨g, m * 7 + j, none⟩ = some y := fun {j y} e => by
        have q := unhide HR
        rw [← unhide HN] at q
        exact q.cells hmP (by rw [hp]; exact e)
      have x0 := HC (j := 0) (y := .slice (some ⟨p.g, 0, none⟩) p.s.ids.length p.c) rfl
      rw [Nat.add_zero] at x0
      have x1 := HC (j := 1) (y := .string p.s.user) rfl
      have x2 := HC (j := 2) (y := .string p.s.device) rfl
      have x3 := HC (j := 3) (y := .int .i64 p.s.level) rfl
      have x4 := HC (j := 4) (y := .int .i64 p.s.login) rfl
      have x5 := HC (j := 5) (y := .int .i64 p.s.last) rfl
      have x6 := HC (j := 6) (y := .bool p.s.dead) rfl
      have IDS := hide (own_slS (by have q := (unhide HR).ids m hmP; rw [hp] at q; exact q))
      have IA := hide (show (idsL x.list).getD m [] = p.s.ids by rw [← hp]; exact (unhide H).idsAt hmP)
      have ILN : p.s.ids.length ≤ 1000 := by
        have q := ((unhide H).okP HOK hmP).il
        rw [hp] at q
        exact Nat.le_trans q HOK.gv
      have RER := hide ((unhide RE).keep (unhide BB))
      clear HC hp
      generalize p.s.user = pu at *
      generalize p.s.device = pd at *
      generalize p.s.level = pl at *
      generalize p.s.login = pg at *
      generalize p.s.last = pa at *
      generalize p.s.dead = pe at *
      generalize p.s.ids = pi at *
      obtain ⟨pn, hpn⟩ : ∃ q, pi.length = q := ⟨_, rfl⟩
      rw [hpn] at x0 ILN
      have PN := hide hpn
      rw [hpn] at IDS
      clear hpn
      have re4 := (unhide RER).at (o := 4) (v := .string i) rfl
      have rez := (unhide RER).lt
      have AN := hide (fun (B : Bool) (hB : B = true ↔ i ∈ pi) => atV_next (L := idsL x.list) (y := i) (k := m) B (by rw [unhide IA]; exact hB))
      go_wp2_with fail
      refine (V.l3Has_anyY _ pn p.c pi i _ (by omega) ((unhide IDS).keep (bAl (Below.refl _ _) _))).mono ?_
      rintro e wx ⟨⟨vb, rfl, hvb⟩, rfl⟩
      have HVB := hide (unhide AN vb hvb)
      clear AN hvb x0 x1 x2 x3 x4 x5 x6
      have BN := hide (bTr (unhide BB) (bAl (Below.refl _ _) (.cells #[.slice (some ⟨p.g, 0, none⟩) pn p.c, .string pu, .string pd, .int .i64 pl, .int .i64 pg, .int .i64 pa, .bool pe] 79)))
      cases vb
      all_goals
        go_wp2_with fail
        exact ⟨⟨m + 1, by omega, by go_num, by rw [unhide HVB]; simp, BN⟩, by simp [intOf]; omega⟩
    · have em : m = n := by omega
      subst em
      have HR := hide ((unhide H).keep (unhide BB))
      replace RE := hide ((unhide RE).keep (unhide BB))
      replace RP := hide ((unhide RP).keep (unhide BB))
      replace TC := hide ((unhide TC).trans ((unhide H).tch (unhide BB)))
      clear H BB
      have H := HR
      clear HR
      obtain ⟨AT, hAT⟩ : ∃ q, findK (idsL x.list) i m = q := ⟨_, rfl⟩
      have hfi : findI (idsL x.list) i = AT := by unfold findI; rw [(unhide H).idsLen, unhide HN]; exact hAT
      rw [hAT]
      clear hAT e0 e1 e2 e3 e4 ez c5 cz
      obtain rfl : AT = some j := hfi.symm.trans hfind
      simp only [atV]
      have hjm : j < m := by rw [← unhide HN]; exact hj
      have nj : ¬ (j : Int) < 0 := by omega
      obtain ⟨g, rfl, hgz, hbg⟩ := unhide HF (by omega)
      obtain ⟨p, hp⟩ : ∃ p, P[j] = p := ⟨_, rfl⟩
      rw [hp] at hlast hdev hdead hov
      have HP := hide hp
      have HXX := hide (show { x with now := t, given := x.given + 1, list := x.list.set j (raised { P[j].s with last := t, level := min (P[j].s.level + 1) 9 } (idOf x.key (x.given + 1))) } = { x with now := t, given := x.given + 1, list := x.list.set j (raised { p.s with last := t, level := min (p.s.level + 1) 9 } (idOf x.key (x.given + 1))) } by simp only [hp])
      have HUS := hide (show P[j].s.user = p.s.user ∧ P[j].s.level = p.s.level by rw [hp]; exact ⟨rfl, rfl⟩)
      have OP := hide (show OkX x.key x.given p.s by have q := (unhide H).okP HOK hj; rw [hp] at q; exact q)
      obtain ⟨pn, hpn⟩ : ∃ q, p.s.ids.length = q + 1 := ⟨p.s.ids.length - 1, by have := List.length_pos_iff.2 (unhide OP).ne; omega⟩
      have HPN := hide hpn
      have pn1000 : pn ≤ 1000 := by have q := (unhide OP).il; have q2 := hOK.gv; omega
      have QH := hide (show SpAt w0 wr b ka kl kc { x with now := t } (.slice (some ⟨g, 0, none⟩) P.length vc) P by rw [unhide HN]; exact unhide H)
      have HC : ∀ {o : Nat} {y : Value}, (encP p)[o]? = some y → wr.cell? ⟨g, j * 7 + o, none⟩ = some y := fun {o y} e => (unhide QH).cells hj (by rw [hp]; exact e)
      have gw : g < wr.heap.size := ((unhide QH).row.lt g rfl).2
      have x0 := kept_cell (W := wr) (p := ⟨g, j * 7 + 0, none⟩) gw (HC (o := 0) (y := .slice (some ⟨p.g, 0, none⟩) p.s.ids.length p.c) rfl)
      rw [Nat.add_zero, hpn] at x0
      have x1 := kept_cell (W := wr) (p := ⟨g, j * 7 + 1, none⟩) gw (HC (o := 1) (y := .string p.s.user) rfl)
      have x2 := kept_cell (W := wr) (p := ⟨g, j * 7 + 2, none⟩) gw (HC (o := 2) (y := .string p.s.device) rfl)
      have x3 := kept_cell (W := wr) (p := ⟨g, j * 7 + 3, none⟩) gw (HC (o := 3) (y := .int .i64 p.s.level) rfl)
      have x4 := kept_cell (W := wr) (p := ⟨g, j * 7 + 4, none⟩) gw (HC (o := 4) (y := .int .i64 p.s.login) rfl)
      have x5 := kept_cell (W := wr) (p := ⟨g, j * 7 + 5, none⟩) gw (HC (o := 5) (y := .int .i64 p.s.last) rfl)
      have x6 := kept_cell (W := wr) (p := ⟨g, j * 7 + 6, none⟩) gw (HC (o := 6) (y := .bool p.s.dead) rfl)
      have id0 := (unhide QH).ids j hj
      rw [hp] at id0
      have x7 := kept_cell (W := wr) (p := ⟨p.g, pn, none⟩) ((id0.lt p.g rfl).2) (by
        rw [id0.cellAt pn (by omega)]
        have q := lastI_get (unhide OP).ne
        rw [hpn, Nat.add_sub_cancel] at q
        show (p.s.ids.map Value.string)[pn]? = some (.string (lastI p.s.ids))
        rw [List.getElem?_map, q]; rfl)
      have y3 := kept_cell (W := wr) (unhide RE).lt ((unhide RE).at (o := 3) (v := .string d) rfl)
      have y4 := kept_cell (W := wr) (unhide RE).lt ((unhide RE).at (o := 4) (v := .string i) rfl)
      have y0 := kept_cell (W := wr) (unhide RE).lt ((unhide RE).at (o := 0) (v := .int .i64 k) rfl)
      have c5 := (unhide H).box.at (o := 5) (v := .slice (some ⟨g, 0, none⟩) m vc) rfl
      have cz := (unhide H).box.lt
      have ne : Nonempty (Kept wr) := ⟨⟨wr, Below.refl _ _⟩⟩
      have wi : IntKind.i64.wrap (((pn + 1 : Nat) : Int) - 1) = (pn : Int) := by rw [IntKind.wrap_i64]; omega
      clear HC id0 hp hpn
      go_upto_region 28 with fail
      clear c5 cz
      rw [hlast] at x7
      rw [hdev] at x2
      have s1 := V.str_eqY i
      have s2 := V.str_eqY d
      refine wp_region_kept (by kernel_rfl) (by kernel_rfl) ?_
      repeat (first
        | go_big_quiet_step ((fail))
        | quiet_step ((fail)))
      refine wpQuiet_nil ?_
      rintro _ ⟨q, rfl⟩
      obtain ⟨wq, hwq⟩ : ∃ W, W = q.w := ⟨_, rfl⟩
      have hbq : Below wr.heap.size wr wq := by rw [hwq]; exact q.h
      rw [← hwq]
      clear hwq q
      replace RE := hide ((unhide RE).keep hbq)
      replace RP := hide ((unhide RP).keep hbq)
      replace TC := hide ((unhide TC).trans ((unhide H).tch hbq))
      replace H := hide ((unhide H).keep hbq)
      replace QH := hide ((unhide QH).keep hbq)
      clear hbq
      clear x0 x1 x2 x3 x4 x5 x6 x7 y0 y3 y4 ne gw
      clear s1 s2 wi
      have HC : ∀ {o : Nat} {y : Value}, (encP p)[o]? = some y → wq.cell? ⟨g, j * 7 + o, none⟩ = some y := fun {o y} e => (unhide QH).cells hj (by rw [unhide HP]; exact e)
      have v0 := HC (o := 0) (y := (.slice (some ⟨p.g, 0, none⟩) p.s.ids.length p.c)) rfl
      rw [Nat.add_zero, unhide HPN] at v0
      have v1 := HC (o := 1) (y := (.string p.s.user)) rfl
      have v2 := HC (o := 2) (y := (.string p.s.device)) rfl
      have v3 := HC (o := 3) (y := (.int .i64 p.s.level)) rfl
      have v4 := HC (o := 4) (y := (.int .i64 p.s.login)) rfl
      have v5 := HC (o := 5) (y := (.int .i64 p.s.last)) rfl
      have v6 := HC (o := 6) (y := (.bool p.s.dead)) rfl
      have vg : g < wq.heap.size := ((unhide QH).row.lt g rfl).2
      clear HC
      rw [hdead] at v6
      rw [hdev] at v2
      have hkx := (unhide OP)
      have xx0 := kept_cell (W := wq) (p := ⟨g, j * 7, none⟩) vg v0
      have xx1 := kept_cell (W := wq) (p := ⟨g, j * 7 + 1, none⟩) vg v1
      have xx2 := kept_cell (W := wq) (p := ⟨g, j * 7 + 2, none⟩) vg v2
      have xx3 := kept_cell (W := wq) (p := ⟨g, j * 7 + 3, none⟩) vg v3
      have xx4 := kept_cell (W := wq) (p := ⟨g, j * 7 + 4, none⟩) vg v4
      have xx5 := kept_cell (W := wq) (p := ⟨g, j * 7 + 5, none⟩) vg v5
      have xx6 := kept_cell (W := wq) (p := ⟨g, j * 7 + 6, none⟩) vg v6
      have cc3 := kept_cell (W := wq) (unhide H).box.lt ((unhide H).box.at (o := 3) (v := .int .i64 t) rfl)
      have ne : Nonempty (Kept wq) := ⟨⟨wq, Below.refl _ _⟩⟩
      have qo := hide (fun (q : Kept wq) => show Calls Tryd.prog 32 #[.pointer (some ⟨b, 0, none⟩), .agg #[.slice (some ⟨p.g, 0, none⟩) (pn + 1) p.c, .string p.s.user, .string d, .int .i64 p.s.level, .int .i64 p.s.login, .int .i64 p.s.last, .bool false], .int .i64 t] q.w (fun e w' => e = .returned (.bool false) ∧ Below q.w.heap.size q.w w') from by
        have q1 := sOver_any b (pn + 1) p.c (some ⟨p.g, 0, none⟩) ka kl kc { x with now := t } p.s _ t q.w ((unhide H).box.keep q.h) hkx.lg hkx.la ⟨(by have q5 := hOK.id.1; show (0 : Int) ≤ x.idle; omega), hOK.id.2⟩ ⟨(by have q5 := hOK.mo.1; show (0 : Int) ≤ x.most; omega), hOK.mo.2⟩
        unfold xV at q1
        rw [show overS { x with now := t } p.s t = overS x p.s t from rfl, hov, hdead, hdev] at q1
        exact q1)
      clear hkx
      go_upto_region 33 with fail
      refine wp_region_kept (by kernel_rfl) (by kernel_rfl) ?_
      repeat (first
        | go_big_quiet_step ((go_at_call 32; with_reducible exact kept_call (unhide qo _)))
        | quiet_step ((go_at_call 32; with_reducible exact kept_call (unhide qo _))))
      refine wpQuiet_nil ?_
      rintro _ ⟨q, rfl⟩
      obtain ⟨wo, hwo⟩ : ∃ W, W = q.w := ⟨_, rfl⟩
      have hbo : Below wq.heap.size wq wo := by rw [hwo]; exact q.h
      rw [← hwo]
      clear hwo q qo xx0 xx1 xx2 xx3 xx4 xx5 xx6 cc3 ne v0 v1 v2 v3 v4 v5 v6 vg
      replace RE := hide ((unhide RE).keep hbo)
      replace RP := hide ((unhide RP).keep hbo)
      replace TC := hide ((unhide TC).trans ((unhide H).tch hbo))
      replace H := hide ((unhide H).keep hbo)
      replace QH := hide ((unhide QH).keep hbo)
      clear hbo
      have HC : ∀ {o : Nat} {y : Value}, (encP p)[o]? = some y → wo.cell? ⟨g, j * 7 + o, none⟩ = some y := fun {o y} e => (unhide QH).cells hj (by rw [unhide HP]; exact e)
      have v5 := HC (o := 5) (y := (.int .i64 p.s.last)) rfl
      have vg : g < wo.heap.size := ((unhide QH).row.lt g rfl).2
      clear HC
      have c3 := (unhide H).box.at (o := 3) (v := .int .i64 t) rfl
      have cz := (unhide H).box.lt
      have fg := (unhide QH).row.frozenAt (j * 7 + 5)
      obtain ⟨w7, hw7⟩ : ∃ W, W = wo.setCell ⟨g, j * 7 + 5, none⟩ (.int .i64 t) := ⟨_, rfl⟩
      have HW := hide hw7.symm
      have EX : encP ⟨{ p.s with last := t }, p.g, p.c⟩ = (encP p).set 5 (.int .i64 t) := rfl
      have Q2 := hide (show SpAt w0 w7 b ka kl kc { x with now := t, list := x.list.set j { p.s with last := t } } (.slice (some ⟨g, 0, none⟩) P.length vc) (P.set j ⟨{ p.s with last := t }, p.g, p.c⟩) by
        rw [hw7]
        have q := (unhide QH).setX hj 5 (.int .i64 t) { p.s with last := t } (by omega) (by rw [unhide HP]; exact EX) (by rw [unhide HP])
        rw [unhide HP] at q
        exact q)
      have gb : w.heap.size ≠ g := fun e => by
        obtain ⟨C, hC⟩ := own_is (unhide QH).row (g := g) rfl
        have q := unhide RE
        unfold RowIs at q
        rw [e, hC] at q
        simp at q
      have gb2 : w.heap.size + 1 ≠ g := fun e => by
        obtain ⟨C, hC⟩ := own_is (unhide QH).row (g := g) rfl
        have q := unhide RP
        unfold RowIs at q
        rw [e, hC] at q
        simp at q
      have RE' := hide (show RowIs w7 w.heap.size _ 34 by rw [hw7]; exact (unhide RE).setOther _ gb)
      have RP' := hide (show RowIs w7 (w.heap.size + 1) rp0 31 by rw [hw7]; exact (unhide RP).setOther _ gb2)
      have TC' := hide (show Tch St b w w7 by rw [hw7]; exact (unhide TC).trans ((unhide QH).tchX _ _))
      clear hw7 EX
      go_upto_region 36 with fail
      refine wp_world (unhide HW) ?_
      clear HW RE RP TC H QH gb gb2 fg
      have RE := RE'
      have RP := RP'
      have TC := TC'
      have H := Q2
      clear RE' RP' TC' Q2
      clear v5 vg c3 cz
      obtain ⟨P2, hP2⟩ : ∃ q, q = P.set j ⟨{ p.s with last := t }, p.g, p.c⟩ := ⟨_, rfl⟩
      have hl2 : P2.length = P.length := by rw [hP2]; simp
      have hj2 : j < P2.length := by rw [hl2]; exact hj
      have HP2 : P2[j] = ⟨{ p.s with last := t }, p.g, p.c⟩ := by subst hP2; simp
      rw [← hP2, ← hl2] at H
      have HQ := hide HP2
      have QH := H
      clear hP2 hl2 HP2
      have e0 := (unhide RE).at (o := 0) (v := .int .i64 k) rfl
      have ez := (unhide RE).lt
      have nk3 : (k == 3) = true := by simp [unhide hk3]
      have lv := (unhide OP).lv
      have wl : IntKind.i64.wrap (p.s.level + 1) = p.s.level + 1 := by rw [IntKind.wrap_i64]; omega
      have HC : ∀ {o : Nat} {y : Value}, (encP ⟨{ p.s with last := t }, p.g, p.c⟩)[o]? = some y → w7.cell? ⟨g, j * 7 + o, none⟩ = some y := fun {o y} e => (unhide QH).cells hj2 (by rw [unhide HQ]; exact e)
      have v3 := HC (o := 3) (y := (.int .i64 p.s.level)) rfl
      have vg : g < w7.heap.size := ((unhide QH).row.lt g rfl).2
      clear HC
      have f39 := (unhide QH).row.frozenAt (j * 7 + 3)
      go_wp2_with fail
      refine (l15L_any _ _ _).mono ?_
      rintro e wx ⟨rfl, rfl⟩
      clear f39
      have fg := (unhide QH).row.frozenAt (j * 7 + 3)
      obtain ⟨w8, hw8⟩ : ∃ W, W = w7.setCell ⟨g, j * 7 + 3, none⟩ (.int .i64 (min (p.s.level + 1) 9)) := ⟨_, rfl⟩
      have HW := hide hw8.symm
      have EX : encP ⟨{ p.s with last := t, level := min (p.s.level + 1) 9 }, p.g, p.c⟩ = (encP ⟨{ p.s with last := t }, p.g, p.c⟩).set 3 (.int .i64 (min (p.s.level + 1) 9)) := rfl
      have Q2 := hide (show SpAt w0 w8 b ka kl kc { x with now := t, list := x.list.set j { p.s with last := t, level := min (p.s.level + 1) 9 } } (.slice (some ⟨g, 0, none⟩) P2.length vc) (P2.set j ⟨{ p.s with last := t, level := min (p.s.level + 1) 9 }, p.g, p.c⟩) by
        rw [hw8]
        have q := (unhide QH).setX hj2 3 (.int .i64 (min (p.s.level + 1) 9)) { p.s with last := t, level := min (p.s.level + 1) 9 } (by omega) (by rw [unhide HQ]; exact EX) (by rw [unhide HQ])
        rw [unhide HQ] at q
        simp only [List.set_set] at q
        exact q)
      have gb : w.heap.size ≠ g := fun e => by
        obtain ⟨C, hC⟩ := own_is (unhide QH).row (g := g) rfl
        have q := unhide RE
        unfold RowIs at q
        rw [e, hC] at q
        simp at q
      have gb2 : w.heap.size + 1 ≠ g := fun e => by
        obtain ⟨C, hC⟩ := own_is (unhide QH).row (g := g) rfl
        have q := unhide RP
        unfold RowIs at q
        rw [e, hC] at q
        simp at q
      have RE' := hide (show RowIs w8 w.heap.size _ 34 by rw [hw8]; exact (unhide RE).setOther _ gb)
      have RP' := hide (show RowIs w8 (w.heap.size + 1) rp0 31 by rw [hw8]; exact (unhide RP).setOther _ gb2)
      have TC' := hide (show Tch St b w w8 by rw [hw8]; exact (unhide TC).trans ((unhide QH).tchX _ _))
      clear hw8 EX
      go_upto_region 39 with fail
      refine wp_world (unhide HW) ?_
      clear v3 vg e0 ez nk3 wl HW RE RP TC H QH gb gb2 fg
      have RE := RE'
      have RP := RP'
      have TC := TC'
      have H := Q2
      clear RE' RP' TC' Q2
      obtain ⟨P9, hP9⟩ : ∃ q, q = P2.set j ⟨{ p.s with last := t, level := min (p.s.level + 1) 9 }, p.g, p.c⟩ := ⟨_, rfl⟩
      have hl3 : P9.length = P2.length := by rw [hP9]; simp
      have hj3 : j < P9.length := by rw [hl3]; exact hj2
      have HP9 : P9[j] = ⟨{ p.s with last := t, level := min (p.s.level + 1) 9 }, p.g, p.c⟩ := by subst hP9; simp
      rw [← hP9, ← hl3] at H
      clear HQ
      have HQ := hide HP9
      have QH := H
      clear hP9 hl3 HP9
      have hj2 := hj3
      obtain ⟨P2, hP2⟩ : ∃ q, q = P9 := ⟨_, rfl⟩
      subst hP2
      have E0 := hide (LgE.start (unhide H) (unhide TC) (unhide RE) (unhide RP) hbz)
      have E1 := hide (unhide E0).dr
      obtain ⟨I, hI⟩ : ∃ q, q = idOf x.key (x.given + 1) := ⟨_, rfl⟩
      have HI := hide hI
      have qid := hide (show Calls Tryd.prog 55 #[.pointer (some ⟨b, 0, none⟩)] w8.drew (fun e w' => e = .returned (.string (idOf x.key (x.given + 1))) ∧ LgE w0 w b ka kl kc { x with now := t, given := x.given + 1, list := x.list.set j { p.s with last := t, level := min (p.s.level + 1) 9 } } (.slice (some ⟨g, 0, none⟩) P2.length vc) P2 #[.int .i64 k, .int .i64 t, .string u, .string d, .string i] w8.heap.size [] w') from id_ev (unhide E1) hK hKl hOK.gv)
      rw [← hI] at qid
      clear hI
      obtain ⟨i1, gi, hzz⟩ := Option.map_eq_some_iff.1 info_strR
      simp only [Prod.mk.injEq] at hzz
      obtain ⟨gz0, gz1, gz2⟩ := hzz
      have v0 := (unhide QH).cells hj2 (j := 0) (u := .slice (some ⟨p.g, 0, none⟩) p.s.ids.length p.c) (by rw [unhide HQ]; rfl)
      rw [Nat.add_zero, unhide HPN] at v0
      have f0 := (unhide QH).row.frozenAt (j * 7)
      have vg : g < w8.heap.size := ((unhide QH).row.lt g rfl).2
      go_region_law
        (first
          | (refine step_call1 _ (by rfl) 55 (.tmp 185) _ rfl _ rfl entId (unhide qid) ?_; rintro e w6 ⟨rfl, hE⟩; refine ⟨_, rfl, ?_⟩; have E2 := hide hE; have OWN := hide (show w6.ownsRow (b + 1) 9 1 (.slice (some ⟨p.g, 0, none⟩) (pn + 1) p.c) (pn + 1) (p.s.ids.map Value.string) from by (have q := (unhide E2).sp.ids j hj2; rw [unhide HQ] at q; have q2 : p.s.ids.length = pn + 1 := unhide HPN; dsimp only at q; rw [q2] at q; exact q)); have u0 := (unhide E2).sp.cells hj2 (j := 0) (u := .slice (some ⟨p.g, 0, none⟩) p.s.ids.length p.c) (by rw [unhide HQ]; rfl); rw [Nat.add_zero, unhide HPN] at u0; have uf := (unhide E2).sp.row.frozenAt (j * 7); have ug : g < w6.heap.size := ((unhide E2).sp.row.lt g rfl).2; clear hE)
          | (refine step_append_lies _ (by rfl) _ _ _ (by rfl) (b + 1) 9 i1 _ 1 16 Tryd.underlying77 gi gz0 gz1 gz2 rfl (by omega) (.slice (some ⟨p.g, 0, none⟩) (pn + 1) p.c) (pn + 1) (p.s.ids.map Value.string) (by rfl) ((unhide OWN).alloc _) ⟨w6.heap.size, 0, none⟩ 1 1 [.string I] (by rfl) (by rfl) (cells_new w6 #[.string I] 9 w6.heap.size rfl) (fun x hx => by simp at hx; subst hx; rfl) (by omega) (by unfold maxLen; omega) (by omega) (by simp; omega) (w6.heap.size + 1) (by simp) ?_; intro g4 cv4 w4 hown4 hgrow4 hat4 hlt4; have ROW4 := hide (own_grown ((unhide E2).sp.row.alloc (.cells #[.string I] 9)) hgrow4 (own_apart (unhide E2).sp.row (unhide OWN) (by decide))); have x0 := (unhide ROW4).cellAt (j * 7) (by omega); rw [← Nat.add_zero (j * 7), PV_get P2 j hj2 0 (.slice (some ⟨p.g, 0, none⟩) p.s.ids.length p.c) (by rw [unhide HQ]; rfl), Nat.add_zero] at x0; have xf := (unhide ROW4).frozenAt (j * 7); have xg : g < w4.heap.size := ((unhide ROW4).lt g rfl).2; have OW := hide hown4; have GR := hide hgrow4; have AT4 := hide hat4; clear hown4 hgrow4 hat4))
      all_goals
        have BA : Below w6.heap.size w6 (w6.alloc (.cells #[.string I] 9)) := bAl (Below.refl _ _) _
        have SN := SpAt.raise (W := w6.alloc (.cells #[.string I] 9)) ((unhide E2).sp.keep BA) hj2 I g4 cv4 (pn + 1) (by rw [unhide HQ]; exact (unhide HPN).symm) (by rw [unhide HQ]; exact unhide OW) (by rw [unhide HQ]; exact unhide GR) (by
          rw [unhide HQ]
          rcases unhide AT4 with e | e
          · exact .inl (Option.some.inj e).symm
          · exact .inr (by rw [e]; simp))
        rw [unhide HQ] at SN
        simp only [List.set_set] at SN
        obtain ⟨w9, hw9⟩ : ∃ W, W = w4.setCell ⟨g, j * 7, none⟩ (.slice (some ⟨g4, 0, none⟩) (pn + 1 + 1) cv4) := ⟨_, rfl⟩
        have HW := hide hw9.symm
        rw [← hw9] at SN
        have RE' := hide (SN.2.row ((unhide E2).re.keep BA) nSE)
        have RP' := hide (SN.2.row ((unhide E2).rp.keep BA) nSR)
        have TC' := hide (((unhide E2).tc.trans ((unhide E2).sp.tch BA)).trans SN.2)
        have H' := hide SN.1
        clear hw9 SN BA
        go_upto_region 42 with fail
        refine wp_world (unhide HW) ?_
        clear HW RE RP TC H QH E0 E1 E2 OWN u0 uf ug v0 f0 vg ROW4 x0 xf xg OW GR AT4 qid
        have RE := RE'
        have RP := RP'
        have TC := TC'
        have H := H'
        clear RE' RP' TC' H'
        obtain ⟨P5, hP5⟩ : ∃ q, q = P2.set j ⟨raised { p.s with last := t, level := min (p.s.level + 1) 9 } I, g4, cv4⟩ := ⟨_, rfl⟩
        have hl5 : P5.length = P2.length := by rw [hP5]; simp
        have hj5 : j < P5.length := by rw [hl5]; exact hj2
        have HP5 : P5[j] = ⟨raised { p.s with last := t, level := min (p.s.level + 1) 9 } I, g4, cv4⟩ := by subst hP5; simp
        rw [← hP5, ← hl5] at H
        have HQ5 := hide HP5
        clear hP5 hl5 HP5
        have HC : ∀ {o : Nat} {y : Value}, (encP ⟨raised { p.s with last := t, level := min (p.s.level + 1) 9 } I, g4, cv4⟩)[o]? = some y → w9.cell? ⟨g, j * 7 + o, none⟩ = some y := fun {o y} e => (unhide H).cells hj5 (by rw [unhide HQ5]; exact e)
        have IL : (raised { p.s with last := t, level := min (p.s.level + 1) 9 } I).ids.length = pn + 1 + 1 := by show (p.s.ids ++ [I]).length = _; rw [List.length_append, unhide HPN]; rfl
        have v0 := HC (o := 0) (y := .slice (some ⟨g4, 0, none⟩) (raised { p.s with last := t, level := min (p.s.level + 1) 9 } I).ids.length cv4) rfl
        rw [Nat.add_zero, IL] at v0
        have v1 := HC (o := 1) (y := .string p.s.user) rfl
        have v2 := HC (o := 2) (y := .string p.s.device) rfl
        rw [hdev] at v2
        have v3 := HC (o := 3) (y := .int .i64 (min (p.s.level + 1) 9)) rfl
        have v4 := HC (o := 4) (y := .int .i64 p.s.login) rfl
        have v5 := HC (o := 5) (y := .int .i64 t) rfl
        have v6 := HC (o := 6) (y := .bool p.s.dead) rfl
        rw [hdead] at v6
        have vg : g < w9.heap.size := ((unhide H).row.lt g rfl).2
        have qt := hide (show Calls Tryd.prog 33 #[.agg #[.slice (some ⟨g4, 0, none⟩) (pn + 1 + 1) cv4, .string p.s.user, .string d, .int .i64 (min (p.s.level + 1) 9), .int .i64 p.s.login, .int .i64 t, .bool false]] w9 (fun e w' => e = .returned (.agg #[.int .i64 0, .string I, .string p.s.user, .int .i64 (min (p.s.level + 1) 9)]) ∧ Below w9.heap.size w9 w') from by
          have id0 := (unhide H).ids j hj5
          rw [unhide HQ5] at id0
          dsimp only at id0
          rw [IL] at id0
          have q1 := sTold_any g4 (pn + 1 + 1) cv4 (raised { p.s with last := t, level := min (p.s.level + 1) 9 } I) w9 IL.symm (by show p.s.ids ++ [I] ≠ []; simp) (by omega) ((id0.lt g4 rfl).2) (by
            rw [id0.cellAt _ (by omega)]
            show ((p.s.ids ++ [I]).map Value.string)[pn + 1 + 1 - 1]? = some (.string (lastI (p.s.ids ++ [I])))
            rw [lastI_snoc, List.map_append, List.getElem?_append_right (by rw [List.length_map, unhide HPN]; omega), List.length_map, unhide HPN]
            rw [show pn + 1 + 1 - 1 - (pn + 1) = 0 by omega]
            rfl)
          rw [show encR (toldR (raised { p.s with last := t, level := min (p.s.level + 1) 9 } I)) = #[.int .i64 0, .string (lastI (p.s.ids ++ [I])), .string p.s.user, .int .i64 (min (p.s.level + 1) 9)] from rfl, lastI_snoc] at q1
          unfold xV at q1
          rw [show (raised { p.s with last := t, level := min (p.s.level + 1) 9 } I).device = p.s.device from rfl, hdev, show (raised { p.s with last := t, level := min (p.s.level + 1) 9 } I).dead = p.s.dead from rfl, hdead] at q1
          exact q1)
        clear HC IL
        go_wp2_with fail
        refine (unhide qt).mono ?_
        rintro e w10 ⟨rfl, hb10⟩
        clear qt v0 v1 v2 v3 v4 v5 v6 vg
        replace RP := hide ((unhide RP).keep hb10)
        replace TC := hide ((unhide TC).trans ((unhide H).tch hb10))
        replace H := hide ((unhide H).keep hb10)
        clear hb10
        have r0 := (unhide RP).at (o := 0) (v := .int .i64 0) rfl
        have f0 := (unhide RP).froz 0
        have r1 := (unhide RP).at (o := 1) (v := .string ⟨#[]⟩) rfl
        have f1 := (unhide RP).froz 1
        have r2 := (unhide RP).at (o := 2) (v := .string ⟨#[]⟩) rfl
        have f2 := (unhide RP).froz 2
        have r3 := (unhide RP).at (o := 3) (v := .int .i64 0) rfl
        have f3 := (unhide RP).froz 3
        have rz := (unhide RP).lt
        go_wp2_with fail
        try simp only [Exit.inBlock, Exit.then]
        have hI2 := unhide HI
        subst hI2
        have qe := fun (n f3 : Int) (f1 f2 : ByteArray) => SpAt.end4 (n := n) (f1 := f1) (f2 := f2) (f3 := f3) (unhide H) (unhide RP) (unhide TC) hbz
        refine bodyPost_ret (ret_reply (fn := Tryd.f47) rfl _ _ (w.heap.size + 1) (encR ⟨_, _, _, _⟩) rfl rfl (qe _ _ _ _).1) rfl ⟨?_, ?_⟩
        · rw [(unhide HUS).1, (unhide HUS).2]
        · rw [unhide HXX]; exact (qe _ _ _ _).2
end Go.Proofs.YtppkgcedkdeccaaDoor
/- Sessions: the specification's do, whole. -/
namespace Go.Proofs.YtppkgcedkdeccaaDoor
set_option linter.unusedSimpArgs false
set_option linter.unusedVariables false
set_option maxRecDepth 20000
open Go.RowKit Go.Maps


theorem OkS.step {x x' : SsT} {k t : Int} {u d i : ByteArray} {r : SessReplyT} (h : OkS x) (hs : StepS x k t u d i x' r) (hg : x.given ≤ 999) (hu : u.size ≤ maxLen) (hd : d.size ≤ maxLen) : OkS x' ∧ x'.given ≤ x.given + 1 ∧ x'.key = x.key ∧ x'.idle = x.idle ∧ x'.most = x.most := by
  have up : ∀ s ∈ x.list, OkX x.key (x.given + 1) s := fun s hsm => by
    have q := h.all s hsm
    exact ⟨q.ne, fun y hy => by obtain ⟨n, a, b, c⟩ := q.ids y hy; exact ⟨n, a, by omega, c⟩, by have := q.il; omega, q.lv, q.lg, q.la, q.us, q.dv⟩
  have setOk : ∀ (gv : Nat) (l : List SxT) (j : Nat) (s : SxT), (∀ q ∈ l, OkX x.key gv q) → OkX x.key gv s → ∀ q ∈ l.set j s, OkX x.key gv q := fun gv l j s hl hs q hq => by
    rcases List.mem_or_eq_of_mem_set hq with h1 | h1
    · exact hl q h1
    · rw [h1]; exact hs
  cases hs with
  | unfit _ => exact ⟨h, by omega, rfl, rfl, rfl⟩
  | past _ _ => exact ⟨h, by omega, rfl, rfl, rfl⟩
  | login hf hn hk =>
    have ht := fit_t hf
    refine ⟨⟨ht, by simp; have := h.ln; omega, by show x.given + 1 ≤ 1000; omega, fun s hsm => ?_, h.id, h.mo⟩, Nat.le_refl _, rfl, rfl, rfl⟩
    rcases List.mem_append.1 hsm with h1 | h1
    · exact up s h1
    · rw [List.mem_singleton.1 h1]
      exact ⟨by simp, fun y hy => ⟨x.given + 1, by omega, Nat.le_refl _, by simpa using hy⟩, by simp, ⟨by simp, by simp⟩, ht, ht, hu, hd⟩
  | all hf hn hk =>
    refine ⟨⟨fit_t hf, by show (killAll u x.list).length ≤ _; rw [killAll_is]; simpa using h.ln, h.gv, fun s hsm => ?_, h.id, h.mo⟩, Nat.le_succ _, rfl, rfl, rfl⟩
    have hsm2 : s ∈ killAll u x.list := hsm
    rw [killAll_is] at hsm2
    obtain ⟨s', h1, h2⟩ := List.mem_map.1 hsm2
    have q := h.all s' h1
    rw [← h2]
    unfold killS
    split
    · exact ⟨q.ne, q.ids, q.il, q.lv, q.lg, q.la, q.us, q.dv⟩
    · exact q
  | unknown hf hn _ _ _ => exact ⟨⟨fit_t hf, h.ln, h.gv, h.all, h.id, h.mo⟩, Nat.le_succ _, rfl, rfl, rfl⟩
  | stolen j hj hf hn _ _ _ _ =>
    have q := h.all _ (List.getElem_mem hj)
    exact ⟨⟨fit_t hf, by simpa using h.ln, h.gv, setOk _ _ _ _ h.all ⟨q.ne, q.ids, q.il, q.lv, q.lg, q.la, q.us, q.dv⟩, h.id, h.mo⟩, Nat.le_succ _, rfl, rfl, rfl⟩
  | dead j hj hf hn _ _ _ _ _ => exact ⟨⟨fit_t hf, h.ln, h.gv, h.all, h.id, h.mo⟩, Nat.le_succ _, rfl, rfl, rfl⟩
  | over j hj hf hn _ _ _ _ _ _ => exact ⟨⟨fit_t hf, h.ln, h.gv, h.all, h.id, h.mo⟩, Nat.le_succ _, rfl, rfl, rfl⟩
  | use j hj hf hn _ _ _ _ _ _ _ _ =>
    have q := h.all _ (List.getElem_mem hj)
    exact ⟨⟨fit_t hf, by simpa using h.ln, h.gv, setOk _ _ _ _ h.all ⟨q.ne, q.ids, q.il, q.lv, q.lg, fit_t hf, q.us, q.dv⟩, h.id, h.mo⟩, Nat.le_succ _, rfl, rfl, rfl⟩
  | out j hj hf hn _ _ _ _ _ =>
    have q := h.all _ (List.getElem_mem hj)
    exact ⟨⟨fit_t hf, by simpa using h.ln, h.gv, setOk _ _ _ _ h.all ⟨q.ne, q.ids, q.il, q.lv, q.lg, fit_t hf, q.us, q.dv⟩, h.id, h.mo⟩, Nat.le_succ _, rfl, rfl, rfl⟩
  | raise j hj hf hn _ _ _ _ _ =>
    have q := up _ (List.getElem_mem hj)
    refine ⟨⟨fit_t hf, by simp; have := h.ln; omega, by show x.given + 1 ≤ 1000; omega, setOk _ _ _ _ up ⟨by simp, fun y hy => ?_, ?_, ?_, q.lg, fit_t hf, q.us, q.dv⟩, h.id, h.mo⟩, Nat.le_refl _, rfl, rfl, rfl⟩
    · rcases List.mem_append.1 hy with h1 | h1
      · exact q.ids y h1
      · exact ⟨x.given + 1, by omega, Nat.le_refl _, by simpa using h1⟩
    · have q0 := (h.all _ (List.getElem_mem hj)).il
      simp only [List.length_append, List.length_singleton]
      omega
    · have q1 := q.lv
      show 1 ≤ min (x.list[j].level + 1) 9 ∧ min (x.list[j].level + 1) 9 ≤ 9
      omega
theorem do_any {w0 : World} {b : Nat} {ka : Option Addr} {kl kc : Nat} {x : SsT} {v : Value} {P : List PxT} (k t : Int) (u d i : ByteArray) (w : World) (h : SpAt w0 w b ka kl kc x v P) (hu : u.size ≤ maxLen) (hd : d.size ≤ maxLen) (hi : i.size ≤ maxLen) (hOK : OkS x) (hK : D.SlB w0 w0.heap.size ka kl x.key) (hKl : kl ≤ 1048576) :
    Calls Tryd.prog 47 #[.pointer (some ⟨b, 0, none⟩), .agg #[.int .i64 k, .int .i64 t, .string u, .string d, .string i]] w fun e w' => ∃ x' r, StepS x k t u d i x' r ∧ DoQ w0 w b ka kl kc x' r e w' := by
  cases hf : fitE k t u d i with
  | false => exact (do_unfit k t u d i w h hu hd hi hf).mono fun e w' q => ⟨_, _, .unfit hf, q⟩
  | true =>
  by_cases hn : t < x.now
  · exact (do_past k t u d i w h hu hd hi hf hn).mono fun e w' q => ⟨_, _, .past hf hn, q⟩
  have hn : x.now ≤ t := by omega
  by_cases hk1 : k = 1
  · exact (do_login k t u d i w h hu hd hi hOK hK hKl hf hn (hide hk1)).mono fun e w' q => ⟨_, _, .login hf hn hk1, q⟩
  by_cases hk5 : k = 5
  · exact (do_all k t u d i w h hu hd hi hOK hf hn (hide hk5)).mono fun e w' q => ⟨_, _, .all hf hn hk5, q⟩
  cases hF : findI (idsL x.list) i with
  | none => exact (do_unknown k t u d i w h hu hd hi hOK hf hn hk1 hk5 hF).mono fun e w' q => ⟨_, _, .unknown hf hn hk1 hk5 hF, q⟩
  | some j =>
  have hj : j < P.length := by
    have q := (findK_some hF).1
    rw [h.idsLen] at q
    exact q
  have hx : j < x.list.length := by rw [h.lst]; simpa using hj
  have eq : x.list[j] = P[j].s := by
    have : ∀ (l : List SxT) (h1 : j < l.length), l = P.map (·.s) → l[j] = P[j].s := fun l h1 e => by subst e; simp
    exact this _ hx h.lst
  by_cases hl : lastI P[j].s.ids = i
  rotate_left
  · exact (do_stolen1 k t u d i w h hu hd hi hOK hf hn hk1 hk5 j hj hF hl).mono fun e w' q => ⟨_, _, .stolen j hx hf hn hk1 hk5 hF (fun c => hl (by rw [← eq]; exact c.1)), by rw [eq]; exact q⟩
  by_cases hdv : P[j].s.device = d
  rotate_left
  · exact (do_stolen2 k t u d i w h hu hd hi hOK hf hn hk1 hk5 j hj hF hl hdv).mono fun e w' q => ⟨_, _, .stolen j hx hf hn hk1 hk5 hF (fun c => hdv (by rw [← eq]; exact c.2)), by rw [eq]; exact q⟩
  have hld : lastI x.list[j].ids = i ∧ x.list[j].device = d := by rw [eq]; exact ⟨hl, hdv⟩
  cases hde : P[j].s.dead with
  | true => exact (do_dead k t u d i w h hu hd hi hOK hf hn hk1 hk5 j hj hF hdv hl hde).mono fun e w' q => ⟨_, _, .dead j hx hf hn hk1 hk5 hF hld (by rw [eq]; exact hde), q⟩
  | false =>
  have hde' : x.list[j].dead = false := by rw [eq]; exact hde
  cases hov : overS x P[j].s t with
  | true => exact (do_over k t u d i w h hu hd hi hOK hf hn hk1 hk5 j hj hF hdv hl hde hov).mono fun e w' q => ⟨_, _, .over j hx hf hn hk1 hk5 hF hld hde' (by rw [eq]; exact hov), q⟩
  | false =>
  have hov' : overS x x.list[j] t = false := by rw [eq]; exact hov
  by_cases hk4 : k = 4
  · exact (do_out k t u d i w h hu hd hi hOK hf hn hk1 hk5 j hj hF hdv hl hde hov (hide hk4)).mono fun e w' q => ⟨_, _, .out j hx hf hn hk4 hF hld hde' hov', by rw [eq]; exact q⟩
  by_cases hk3 : k = 3
  · exact (do_raise k t u d i w h hu hd hi hOK hK hKl hf hn (hide hk3) hk1 hk5 j hj hF hdv hl hde hov).mono fun e w' q => ⟨_, _, .raise j hx hf hn hk3 hF hld hde' hov', by rw [eq]; exact q⟩
  · exact (do_use k t u d i w h hu hd hi hOK hf hn hk1 hk5 j hj hF hdv hl hde hov hk3 hk4).mono fun e w' q => ⟨_, _, .use j hx hf hn hk1 hk5 hF hld hde' hov' hk3 hk4, by rw [eq]; exact q⟩
end Go.Proofs.YtppkgcedkdeccaaDoor
/- Sessions: the specification's run. -/
namespace Go.Proofs.YtppkgcedkdeccaaDoor
set_option linter.unusedSimpArgs false
set_option linter.unusedVariables false
set_option maxRecDepth 20000
open Go.RowKit Go.Maps


inductive RunS : SsT → List SessEventT → SsT → List SessReplyT → Prop
  | nil (x : SsT) : RunS x [] x []
  | snoc {x x1 x2 : SsT} {l : List SessEventT} {e : SessEventT} {rs : List SessReplyT} {r : SessReplyT} : RunS x l x1 rs → StepS x1 e.f0 e.f1 e.f2 e.f3 e.f4 x2 r → RunS x (l ++ [e]) x2 (rs ++ [r])
theorem RunS.len {x x' : SsT} {l : List SessEventT} {rs : List SessReplyT} (h : RunS x l x' rs) : rs.length = l.length := by
  induction h with
  | nil => rfl
  | snoc _ _ ih => simp [ih]
/-- What lies behind m events. -/
structure SrR (w w1 : World) (ka : Option Addr) (kl kc : Nat) (x0 : SsT) (l : List SessEventT) (m : Nat) (v : Value) (w' : World) (x' : SsT) (rs : List SessReplyT) (vs : Value) (P : List PxT) : Prop where
  run : RunS x0 (l.take m) x' rs
  len : rs.length = m
  ok : OkS x'
  gv : x'.given ≤ m
  ky : x'.key = x0.key ∧ x'.idle = x0.idle ∧ x'.most = x0.most
  sp : SpAt w w' (w.heap.size + 1) ka kl kc x' vs P
  own : w'.ownsRow (w.heap.size + 1) 31 4 v m (SessReplysV rs)
theorem nSt57 : ¬ St 31 := by unfold St; decide
theorem run_more {w w1 wr w2 w3 w4 : World} {ka : Option Addr} {kl kc : Nat} {x0 x' x2 : SsT} {l : List SessEventT} {m : Nat} {v u vs : Value} {rs : List SessReplyT} {P : List PxT} {r : SessReplyT} {e : SessEventT} (h : SrR w w1 ka kl kc x0 l m v wr x' rs vs P) (hm : m < l.length) (he : l[m] = e) (hm2 : m < 300) (hb : Below wr.heap.size wr w2)
    (hs : StepS x' e.f0 e.f1 e.f2 e.f3 e.f4 x2 r) (hq : SpEnd w w2 (w.heap.size + 1) ka kl kc x2 w3) (o : Obj) (hown : w4.ownsRow (w.heap.size + 1) 31 4 u (m + 1) (SessReplysV rs ++ encSessReply r)) (hg : (w3.alloc o).grownBy w4 v.ownBlock) (h2 : e.f2.size ≤ maxLen) (h3 : e.f3.size ≤ maxLen) :
    ∃ vs' P', SrR w w1 ka kl kc x0 l (m + 1) u w4 x2 (rs ++ [r]) vs' P' := by
  obtain ⟨⟨vs', P', sp⟩, tc⟩ := hq
  obtain ⟨ok2, g2, k2, i2, o2⟩ := h.ok.step hs (by have := h.gv; omega) h2 h3
  have ow2 := own_blk h.own (fun g hg => hb.block g (h.own.lt g hg).2)
  have ow3 := tc.own ow2 nSt57
  have spa := sp.keep (bAl (Below.refl _ _) o)
  have ow3a := ow3.alloc o
  have bel : Below w.heap.size w w4 := ⟨hg.os.trans spa.bel.os, hg.tape.trans spa.bel.tape, hg.output.trans spa.bel.output, Nat.le_trans spa.bel.size hg.size, fun g hgl => by
    rw [hg.block g (by have := spa.bel.size; omega) (fun e => by have := (ow3a.lt g e.symm).1; omega)]
    exact spa.bel.block g hgl⟩
  refine ⟨vs', P', ⟨?_, by simp [h.len], ok2, by have := h.gv; omega, ⟨by rw [k2]; exact h.ky.1, by rw [i2]; exact h.ky.2.1, by rw [o2]; exact h.ky.2.2⟩, spa.other (fun g C T hC hS => ?_) bel, by rw [SessReplysV_snoc]; exact hown⟩⟩
  · rw [List.take_succ_eq_append_getElem hm, he]
    exact RunS.snoc h.run hs
  · refine hg.block g (Array.getElem?_eq_some_iff.1 hC).1 (fun e => ?_)
    obtain ⟨C', hC'⟩ := own_is ow3a e.symm
    rw [hC'] at hC
    cases hC
    exact nSt57 hS
def xS0 (key : List UInt8) (idle most : Int) : SsT := ⟨key, idle, most, 0, 0, []⟩
set_option maxHeartbeats 8000000 in
theorem sRun_any (ka : Option Addr) (kl kc : Nat) (key : List UInt8) (idle most : Int) (a : Option Addr) (len cap : Nat) (l : List SessEventT) (w : World) (hk : D.SlB w w.heap.size ka kl key) (hkl : kl ≤ 1048576) (hi : 1 ≤ idle ∧ idle ≤ 1000000) (hm : 1 ≤ most ∧ most ≤ 1000000) (hl : len ≤ 200) (hs : SlSessEvent w a len l) (hok : ∀ q ∈ l, SessEventT.Ok q) :
    Calls Tryd.prog 28 #[.agg #[.slice ka kl kc, .int .i64 idle, .int .i64 most], .slice a len cap] w fun e w' => ∃ x' rs v vs P, e = .returned (.tuple #[.pointer (some ⟨w.heap.size + 1, 0, none⟩), v]) ∧ Hid (SrR w w ka kl kc (xS0 key idle most) l len v w' x' rs vs P) := by
  obtain ⟨i0, hi0, hz⟩ := Option.map_eq_some_iff.1 info_SessReply
  simp only [Prod.mk.injEq] at hz
  obtain ⟨hz0, hz1, hz2⟩ := hz
  have HI := hide (And.intro hi0 (And.intro hz0 (And.intro hz1 hz2)))
  have HS := hide hs
  have HO := hide hok
  have LL := hide hs.1
  obtain ⟨W1, hW1⟩ : ∃ W, W = w.alloc (.cells #[.slice ka kl kc, .int .i64 idle, .int .i64 most] 24) := ⟨_, rfl⟩
  obtain ⟨W2, hW2⟩ : ∃ W, W = W1.alloc (.cells #[.slice ka kl kc, .int .i64 idle, .int .i64 most, .int .i64 0, .int .i64 0, .slice none 0 0] 76) := ⟨_, rfl⟩
  have z1 : W1.heap.size = w.heap.size + 1 := by rw [hW1]; simp
  have b1 : Below w.heap.size w W1 := by rw [hW1]; exact bAl (Below.refl _ _) _
  have b2 : Below W1.heap.size W1 W2 := by rw [hW2]; exact bAl (Below.refl _ _) _
  have R2 := show RowIs W2 (w.heap.size + 1) #[.slice ka kl kc, .int .i64 idle, .int .i64 most, .int .i64 0, .int .i64 0, .slice none 0 0] 76 by rw [hW2, ← z1]; exact RowIs.new _ _ _
  have T0 := hide (show SrR w w ka kl kc (xS0 key idle most) l 0 (.slice none 0 0) W2 (xS0 key idle most) [] (.slice none 0 0) [] from
    ⟨by rw [List.take_zero]; exact RunS.nil _, rfl, ⟨by simp [xS0], by simp [xS0], by simp [xS0], by simp [xS0], hi, hm⟩, Nat.zero_le _, ⟨rfl, rfl, rfl⟩, ⟨R2, rfl, World.ownsRow_nil _ _ _ _, (fun q hq => absurd hq (Nat.not_lt_zero _)), (fun q r hq => absurd hq (Nat.not_lt_zero _)), bTr b1 b2, by omega⟩, World.ownsRow_nil _ _ _ _⟩)
  rw [hW1] at hW2
  have HW2 := hide hW2.symm
  clear hs hok hW1 hW2 z1 b1 b2 R2 hi0 hz0 hz1 hz2
  have KK := hide hk
  have h300 : len < 300 := by omega
  go_enter Tryd.func28, Tryd.ntmps28
  go_upto_region 2 with fail
  refine wp_world (unhide HW2) ?_
  clear HW2
  go_wp2_with fail
  go_loopw [7, 9, 15] (fun v _ q w' => ∃ (m : Nat) (x' : SsT) (rs : List SessReplyT) (vs : Value) (P : List PxT), m ≤ len ∧ q = .int .i64 m ∧ Hid (SrR w w ka kl kc (xS0 key idle most) l m v w' x' rs vs P)) (fun _ _ q _ => len - (intOf q).toNat)
  case atStart => exact ⟨0, _, [], _, [], Nat.zero_le _, rfl, T0⟩
  case round =>
    obtain ⟨m, x', rs, vs, P, hm9, rfl, hT⟩ := hrel
    clear T0
    by_cases hlt : m < len
    · obtain ⟨g, off, rfl, hrow⟩ := ((unhide HS).keep (unhide hT).sp.bel).at hlt
      have hk' : m < l.length := by rw [← unhide LL]; exact hlt
      have c0 := hrow.c0 m hk'
      have c1 := hrow.c1 m hk'
      have c2 := hrow.c2 m hk'
      have c3 := hrow.c3 m hk'
      have c4 := hrow.c4 m hk'
      have hzb := hrow.z
      have OKE := hide (unhide HO _ (List.getElem_mem hk'))
      obtain ⟨A, hA⟩ : ∃ A, l[m] = A := ⟨_, rfl⟩
      have HA := hide hA
      rw [hA] at c0 c1 c2 c3 c4 OKE
      clear hrow hA
      obtain ⟨W3, hW3⟩ : ∃ W, W = wr.alloc (.cells #[.int .i64 A.f0, .int .i64 A.f1, .string A.f2, .string A.f3, .string A.f4] 34) := ⟨_, rfl⟩
      have b3 : Below wr.heap.size wr W3 := by rw [hW3]; exact bAl (Below.refl _ _) _
      have R3 := show RowIs W3 wr.heap.size #[.int .i64 A.f0, .int .i64 A.f1, .string A.f2, .string A.f3, .string A.f4] 34 by rw [hW3]; exact RowIs.new _ _ _
      have e0 := R3.at (o := 0) (v := .int .i64 A.f0) rfl
      have e1 := R3.at (o := 1) (v := .int .i64 A.f1) rfl
      have e2 := R3.at (o := 2) (v := .string A.f2) rfl
      have e3 := R3.at (o := 3) (v := .string A.f3) rfl
      have e4 := R3.at (o := 4) (v := .string A.f4) rfl
      have ez := R3.lt
      have HW3 := hide hW3.symm
      have B3 := hide b3
      have qd := hide (do_any A.f0 A.f1 A.f2 A.f3 A.f4 W3 ((unhide hT).sp.keep b3) (unhide OKE).o2 (unhide OKE).o3 (unhide OKE).o4 (unhide hT).ok (by rw [(unhide hT).ky.1]; exact unhide KK) hkl)
      clear hW3 R3 b3
      go_upto_region 6 with fail
      refine wp_world (unhide HW3) ?_
      clear c0 c1 c2 c3 c4 hzb HW3
      go_wp2_with fail
      refine (unhide qd).mono ?_
      rintro e w3 ⟨x2, r, hst, rfl, hq⟩
      have HQ := hide hq
      have ST := hide hst
      have O3 := hide (((unhide HQ).2).own (own_blk (unhide hT).own (fun g hg => (unhide B3).block g ((unhide hT).own.lt g hg).2)) nSt57)
      have z3 : w.heap.size + 1 < w3.heap.size := by
        obtain ⟨⟨_, _, q⟩, _⟩ := unhide HQ
        exact q.box.lt
      have CN := hide (fun o => cells_new w3 (encR r) 31 o)
      clear qd hq hst e0 e1 e2 e3 e4 ez
      have er : encR r = #[.int .i64 r.f0, .string r.f1, .string r.f2, .int .i64 r.f3] := rfl
      rw [er]
      go_wp2_with (at_builtin; refine wpList_append_own _ rfl _ _ 28 rfl (w.heap.size + 1) 31 i0 (.agg #[.int .i64 0, .string ByteArray.empty, .string ByteArray.empty, .int .i64 0]) 4 48 Tryd.underlying28 (unhide HI).1 (unhide HI).2.1 (unhide HI).2.2.1 (unhide HI).2.2.2 rfl (by decide) _ _ _ rfl ((unhide O3).alloc _) ⟨w3.heap.size, 0, none⟩ 1 1 (encSessReply r) rfl rfl (unhide CN _ rfl) (encSessReply_one _) (by unfold maxLen; omega) (by omega) (by simp; omega) ?_; intro v' w4 hown hgrow _)
      obtain ⟨vs', P', hN⟩ := run_more (unhide hT) hk' (unhide HA) (by omega) (unhide B3) (unhide ST) (unhide HQ) _ hown hgrow (unhide OKE).o2 (unhide OKE).o3
      exact ⟨⟨m + 1, x2, rs ++ [r], vs', P', by omega, by go_num, hide hN⟩, by simp [intOf]; omega⟩
    · have em : m = len := by omega
      subst em
      go_wp2_with fail
      go_ret2
      exact ⟨x', rs, _, vs, P, rfl, hT⟩
end Go.Proofs.YtppkgcedkdeccaaDoor
