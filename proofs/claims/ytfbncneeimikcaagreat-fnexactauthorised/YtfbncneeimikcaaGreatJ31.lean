/- OAs, OAt, one behind the other. -/
import Derived.Test.YtfbncneeimikcaaGreatJ30
import Derived.Test.YtfbncneeimikcaaGreatJ26
/- spec.l15Authorised, spec.Authorised. -/
namespace Go.Proofs.YtfbncneeimikcaaGreat.V
set_option linter.unusedSimpArgs false
set_option linter.unusedVariables false
open Go.RowKit Go.Maps

theorem SqS.ofG {w : World} {a : Option Addr} {len cap : Nat} {l : List ByteArray} (s : Go.Proofs.YtfbncneeimikcaaGreat.SlS w a len l) : SqS w 0 ⟨a, len, cap⟩ l :=
  ⟨s.1, s.2.imp id fun ⟨b, off, e, r⟩ => ⟨b, off, e, Lo.zero _ _, r.z, r.c⟩⟩
theorem unf_many (P : ByteArray → List ByteArray) (ns : List ByteArray) (x : ByteArray) : UnF P ns x ↔ ∃ a ∈ ns, UnF P [a] x := by
  constructor
  · intro h
    induction h with
    | base hb => exact ⟨_, hb, .base (by simp)⟩
    | next _ hb ih => obtain ⟨a, ha, h⟩ := ih; exact ⟨a, ha, .next h hb⟩
  · rintro ⟨a, ha, h⟩
    induction h with
    | base hb => simp at hb; rw [hb]; exact .base ha
    | next _ hb ih => exact .next ih hb
theorem role_found {l : List RoleE} {s : ByteArray} {x : RoleE} {b : Bool} (hf : l.find? (fun c => decide (c.t.f0 = s)) = (if b = true then some x else none)) : b = true ↔ s ∈ nms (l.map (·.t)) := by
  cases b
  · refine ⟨fun h => (by cases h), fun h => ?_⟩
    have hf' : l.find? (fun c => decide (c.t.f0 = s)) = none := by rw [hf]; rfl
    unfold nms at h
    rw [List.map_map] at h
    obtain ⟨y, hy, e⟩ := List.mem_map.1 h
    have := (List.find?_eq_none.1 hf') y hy
    simp at e
    simp [e] at this
  · refine ⟨fun _ => ?_, fun _ => rfl⟩
    have hf' : l.find? (fun c => decide (c.t.f0 = s)) = some x := by rw [hf]; rfl
    have h1 := List.mem_of_find?_eq_some hf'
    have h2 := List.find?_some hf'
    simp at h2
    unfold nms
    rw [List.map_map]
    exact List.mem_map.2 ⟨x, h1, h2⟩
/-- The grant gives the user its role. -/
def AGd (rs : List RoleT) (gs : List RoleGrantT) (u : ByteArray) (t : Int) (g : RoleGrantT) : Prop := g.f1 ∈ nms rs ∧ g.f0 = u ∧ CG gs t g
/-- What the user is authorised for. -/
def AuM (rs : List RoleT) (gs : List RoleGrantT) (u : ByteArray) (t : Int) (y : ByteArray) : Prop := ∃ g ∈ gs, AGd rs gs u t g ∧ jmem rs g.f1 y
def AuK (rs : List RoleT) (gs : List RoleGrantT) (u : ByteArray) (t : Int) (k : Nat) (y : ByteArray) : Prop := ∃ i, ∃ h : i < gs.length, i < k ∧ AGd rs gs u t gs[i] ∧ gs[i].f1 = y
theorem AuK.zero {rs : List RoleT} {gs : List RoleGrantT} {u : ByteArray} {t : Int} (y : ByteArray) : ¬ AuK rs gs u t 0 y := fun ⟨_, _, h, _⟩ => Nat.not_lt_zero _ h
theorem AuK.skip {rs : List RoleT} {gs : List RoleGrantT} {u : ByteArray} {t : Int} {k : Nat} (hk : k < gs.length) (hn : ¬ AGd rs gs u t gs[k]) (y : ByteArray) : AuK rs gs u t (k + 1) y ↔ AuK rs gs u t k y := by
  constructor
  · rintro ⟨i, hi, h1, h2, h3⟩
    refine ⟨i, hi, ?_, h2, h3⟩
    rcases Nat.lt_or_ge i k with h | h
    · exact h
    · obtain rfl : i = k := by omega
      exact absurd h2 hn
  · rintro ⟨i, hi, h1, h2⟩; exact ⟨i, hi, by omega, h2⟩
theorem AuK.take {rs : List RoleT} {gs : List RoleGrantT} {u : ByteArray} {t : Int} {k : Nat} (hk : k < gs.length) (hn : AGd rs gs u t gs[k]) (y : ByteArray) : AuK rs gs u t (k + 1) y ↔ (AuK rs gs u t k y ∨ y = gs[k].f1) := by
  constructor
  · rintro ⟨i, hi, h1, h2, h3⟩
    rcases Nat.lt_or_ge i k with h | h
    · exact .inl ⟨i, hi, h, h2, h3⟩
    · obtain rfl : i = k := by omega
      exact .inr h3.symm
  · rintro (⟨i, hi, h1, h2⟩ | rfl)
    · exact ⟨i, hi, by omega, h2⟩
    · exact ⟨k, hk, by omega, hn, rfl⟩
theorem auM_iff {rs : List RoleT} {gs : List RoleGrantT} {u : ByteArray} {t : Int} (hnd : (nms rs).Nodup) {ns : List ByteArray} (h : ∀ y, y ∈ ns ↔ AuK rs gs u t gs.length y) (x : ByteArray) : UnF (undR rs) ns x ↔ AuM rs gs u t x := by
  rw [unf_many]
  constructor
  · rintro ⟨a, ha, hx⟩
    obtain ⟨i, hi, _, h2, rfl⟩ := (h a).1 ha
    exact ⟨_, List.getElem_mem hi, h2, (unf_self hnd _ _).1 hx⟩
  · rintro ⟨g, hg, h2, hx⟩
    obtain ⟨i, hi, rfl⟩ := List.getElem_of_mem hg
    exact ⟨_, (h _).2 ⟨i, hi, hi, h2, rfl⟩, (unf_self hnd _ _).2 hx⟩
set_option maxRecDepth 40000 in
set_option maxHeartbeats 8000000 in
theorem l15Auth_n (h0 h1 h2 : Hd) (rs : List RoleE) (hg : Hd) (gl : List RoleGrantE) (u : ByteArray) (t : Int) (w : World) (hl : rs.length ≤ maxLen) (hs : SqRoleE w 0 h0 rs) (hn : ∀ e ∈ rs, RoleN e.t) (hU : (allU rs).length ≤ 20000) (hnd : (nms (rs.map (·.t))).Nodup) (hgl : gl.length ≤ 300) (hgn : ∀ e ∈ gl, RoleGrantN e.t) (hd : DepOk (gl.map (·.t))) (sg : SqRoleGrantE w 0 hg gl) :
    Calls Tryz.prog 25 #[.agg #[.slice h0.a h0.len h0.cap, .slice h1.a h1.len h1.cap, .slice h2.a h2.len h2.cap], .slice hg.a hg.len hg.cap, .string u, .int .i64 t, .bool false] w fun r w' => (∃ v rr, r = .returned v ∧ (RisS rr ∧ ∀ x, x ∈ rr ↔ AuM (rs.map (·.t)) (gl.map (·.t)) u t x) ∧ w'.ownsRow w.heap.size 9 1 v rr.length (rr.map Value.string)) ∧ Below w.heap.size w w' := by
  have q1 := hide (fun (s : ByteArray) (w' : World) (hb : Below w.heap.size w w') => l15Role_n h0 h1 h2 rs s w' hl (hs.keep hb))
  have q2 := hide (fun (ns : List ByteArray) (hd : Hd) (w' : World) (hb : Below w.heap.size w w') (sl : SqS w' 0 hd ns) (hnl : ns.length ≤ 20000) (hno : ∀ x ∈ ns, ByteArray.size x ≤ maxLen) => l15Under_n h0 h1 h2 rs hd ns w' hl (hs.keep hb) hn hU sl hnl hno)
  have q3 := hide (fun (n : Nat) (below : Int) (u r : ByteArray) (w' : World) (hb : Below w.heap.size w w') (hbl : below ≤ n) => l15Counts_n hg gl r t (by unfold maxLen; omega) (fun e he => (hd _ (List.mem_map_of_mem he)).1) n below u w' hbl (sg.keep hb))
  have HD := hide hd
  have HGN := hide hgn
  have HG := hide sg
  have HL := hide sg.1
  have FIN : Hid (∀ ns : List ByteArray, (∀ y, y ∈ ns ↔ AuK (rs.map (·.t)) (gl.map (·.t)) u t (gl.map (·.t)).length y) → ∀ x, UnF (undR (rs.map (·.t))) ns x ↔ AuM (rs.map (·.t)) (gl.map (·.t)) u t x) := hide (fun ns h x => auM_iff hnd h x)
  obtain ⟨AM, hAM⟩ : ∃ AM, AM = AuM (rs.map (·.t)) (gl.map (·.t)) u t := ⟨_, rfl⟩
  rw [← hAM] at FIN ⊢
  obtain ⟨a, len, cap⟩ := hg
  simp only at HL q3
  have L3 : len ≤ 300 := by have := unhide HL; omega
  obtain ⟨i0, hi, hz0, hz1, hz2⟩ := info_parts info_str
  have R0 := hide (RowIs.new w #[.slice h0.a h0.len h0.cap, .slice h1.a h1.len h1.cap, .slice h2.a h2.len h2.cap] 38)
  have B0 := hide (bAl (Below.refl w.heap.size w) (.cells #[.slice h0.a h0.len h0.cap, .slice h1.a h1.len h1.cap, .slice h2.a h2.len h2.cap] 38))
  clear hl hs hn hU hnd hgl hgn hd sg hAM
  go_enter Tryz.func25, Tryz.ntmps25
  go_wp2_with fail
  go_loopw [11, 18] (fun v i w' => ∃ (k : Nat) (L : List ByteArray), k ≤ len ∧ i = .int .i64 k ∧ L.length ≤ k ∧ Hid (w'.ownsRow w.heap.size 9 1 v L.length (L.map Value.string)) ∧ Hid (∀ y, y ∈ L ↔ AuK (rs.map (·.t)) (gl.map (·.t)) u t k y) ∧ Hid (RowIs w' w.heap.size #[.slice h0.a h0.len h0.cap, .slice h1.a h1.len h1.cap, .slice h2.a h2.len h2.cap] 38) ∧ Hid (Below w.heap.size w w')) (fun _ i _ => len - (Go.RowKit.intOf i).toNat)
  case atStart => exact ⟨0, [], Nat.zero_le _, rfl, Nat.zero_le _, hide (World.ownsRow_nil _ _ _ _), hide (fun y => ⟨fun h => (by cases h), fun h => absurd h (AuK.zero y)⟩), R0, B0⟩
  case round =>
    clear R0 B0
    obtain ⟨k, L, hk, rfl, hLk, O, I0, R, B⟩ := hrel
    obtain ⟨av, cv, eu, su⟩ := own_strs (unhide O)
    subst eu
    by_cases hlt : k < len
    case neg =>
      have EX := hide (unhide FIN L (by have := unhide I0; rw [show (gl.map (·.t)).length = k by simp; have := unhide HL; omega]; exact this))
      have r0 := (unhide R).at (o := 0) (v := .slice h0.a h0.len h0.cap) rfl
      have r1 := (unhide R).at (o := 1) (v := .slice h1.a h1.len h1.cap) rfl
      have r2 := (unhide R).at (o := 2) (v := .slice h2.a h2.len h2.cap) rfl
      have OK : ∀ x ∈ L, ByteArray.size x ≤ maxLen := fun x hx => by
        obtain ⟨i, hi, _, _, rfl⟩ := (unhide I0 x).1 hx
        simp only [List.getElem_map]
        exact (unhide HGN _ (List.getElem_mem (by simpa using hi))).o1
      have qu := hide (unhide q2 L ⟨av, L.length, cv⟩ wr (unhide B) (SqS.ofG su) (by omega) OK)
      clear OK I0 su q2 q3 FIN
      go_wp2_with fail
      refine (unhide qu).mono ?_
      rintro r w3 ⟨⟨v, rr, rfl, hr3, ho⟩, hb⟩
      have JJ := hide (And.intro hr3.1 (fun x => (hr3.2.1 x).trans (unhide EX x)))
      have HO := hide (own_base ho (unhide B).size)
      have B3 := hide (bTr (unhide B) hb)
      clear hr3 ho hb qu
      go_wp2_with fail
      go_ret
      exact ⟨⟨_, rr, rfl, unhide JJ, unhide HO⟩, unhide B3⟩
    have hk' : k < gl.length := by have := unhide HL; omega
    obtain ⟨b, off, e0, hrow⟩ := ((unhide HG).keep (unhide B)).at hlt
    simp only at e0
    subst e0
    have c0 := hrow.c0 k hk'
    have c1 := hrow.c1 k hk'
    have c2 := hrow.c2 k hk'
    have c3 := hrow.c3 k hk'
    have c4 := hrow.c4 k hk'
    have c5 := hrow.c5 k hk'
    have ek : (gl.map (·.t))[k]'(by simpa using hk') = gl[k].t := by simp
    have hkm : k < (gl.map (·.t)).length := by simpa using hk'
    have SKP : Hid (¬ AGd (rs.map (·.t)) (gl.map (·.t)) u t gl[k].t → ∀ y, y ∈ L ↔ AuK (rs.map (·.t)) (gl.map (·.t)) u t (k + 1) y) := hide (fun h y => by rw [AuK.skip hkm (by rw [ek]; exact h)]; exact unhide I0 y)
    have TAK : Hid (AGd (rs.map (·.t)) (gl.map (·.t)) u t gl[k].t → ∀ y, y ∈ L ++ [gl[k].t.f1] ↔ AuK (rs.map (·.t)) (gl.map (·.t)) u t (k + 1) y) := hide (fun h y => by rw [AuK.take hkm (by rw [ek]; exact h), List.mem_append, unhide I0 y, ek]; simp)
    have DD := hide ((unhide HD) _ (List.mem_map_of_mem (List.getElem_mem hk')))
    have bG := bAl (Below.refl wr.heap.size wr) (.cells #[.string gl[k].t.f0, .string gl[k].t.f1, .string gl[k].t.f2, .int .i64 gl[k].t.f3, .int .i64 gl[k].t.f4, .int .i64 gl[k].t.f5] 112)
    have QG := hide (RowIs.new wr #[.string gl[k].t.f0, .string gl[k].t.f1, .string gl[k].t.f2, .int .i64 gl[k].t.f3, .int .i64 gl[k].t.f4, .int .i64 gl[k].t.f5] 112)
    replace O := hide (own_keep (unhide O) bG)
    replace R := hide ((unhide R).keep bG)
    replace B := hide (bTr (unhide B) bG)
    have r0 := (unhide R).at (o := 0) (v := .slice h0.a h0.len h0.cap) rfl
    have r1 := (unhide R).at (o := 1) (v := .slice h1.a h1.len h1.cap) rfl
    have r2 := (unhide R).at (o := 2) (v := .slice h2.a h2.len h2.cap) rfl
    clear bG I0 su ek hkm hrow FIN q2
    generalize gl[k] = A at *
    obtain ⟨⟨f0, f1, f2, f3, f4, f5⟩⟩ := A
    simp only at *
    have qr := hide (unhide q1 f1 _ (unhide B))
    clear q1
    go_wp2_with fail
    refine (unhide qr).mono ?_
    rintro r w1 ⟨⟨x, b, rfl, hf, hx⟩, hb⟩
    have HF := hide (role_found hf)
    have bX := bTr hb (bAl (Below.refl _ _) (.cells #[.string x.t.f0, .slice x.h1.a x.h1.len x.h1.cap, .slice x.h2.a x.h2.len x.h2.cap] 103))
    replace O := hide (own_keep (unhide O) bX)
    replace R := hide ((unhide R).keep bX)
    replace B := hide (bTr (unhide B) bX)
    have RB := hide ((unhide QG).keep bX)
    clear hb bX hf hx qr QG r0 r1 r2 c0 c1 c2 c3 c4 c5
    have y0 := (unhide RB).at (o := 0) (v := .string f0) rfl
    have y1 := (unhide RB).at (o := 1) (v := .string f1) rfl
    have y2 := (unhide RB).at (o := 2) (v := .string f2) rfl
    have y3 := (unhide RB).at (o := 3) (v := .int .i64 f3) rfl
    have y4 := (unhide RB).at (o := 4) (v := .int .i64 f4) rfl
    have qk := hide (unhide q3 2 f4 f2 f1 _ (unhide B) (by have := (unhide DD).2; omega))
    clear q3
    cases b
    case false =>
      have I1 := hide (unhide SKP (fun h => (by have := (unhide HF).2 h.1; cases this)))
      clear SKP TAK HF qk RB 
      go_wp2_with fail
      exact ⟨⟨k + 1, L, by omega, by go_num, by omega, O, I1, R, B⟩, by simp [Go.RowKit.intOf]; omega⟩
    have hr : f1 ∈ nms (rs.map (·.t)) := (unhide HF).1 rfl
    by_cases e0 : f0 = u
    case neg =>
      have d0 := str_neO e0
      have I1 := hide (unhide SKP (fun h => e0 h.2.1))
      clear SKP TAK HF qk RB e0 hr
      go_wp2_with fail
      exact ⟨⟨k + 1, L, by omega, by go_num, by omega, O, I1, R, B⟩, by simp [Go.RowKit.intOf]; omega⟩
    have d0 : (f0.toList == u.toList) = true := by rw [e0]; exact str_eqO _
    by_cases e3 : f3 < t
    case pos =>
      have d3 : decide (f3 < t) = true := decide_eq_true e3
      have I1 := hide (unhide SKP (fun h => absurd h.2.2.1 (by simp only; omega)))
      clear SKP TAK HF qk RB e0 e3 hr
      go_wp2_with fail
      exact ⟨⟨k + 1, L, by omega, by go_num, by omega, O, I1, R, B⟩, by simp [Go.RowKit.intOf]; omega⟩
    have d3 : decide (f3 < t) = false := decide_eq_false e3
    have e3' : t ≤ f3 := by omega
    by_cases e4 : f2 = ⟨#[]⟩
    case pos =>
      have d4 : (f2.toList == []) = true := by rw [e4]; simp
      have t5 : (L.length + 1) * 16 ≤ 140737488355328 := by omega
      have Bs := (unhide B).size
      have T4 := hide (show w.heap.size ≤ ((w1.alloc (.cells #[.string x.t.f0, .slice x.h1.a x.h1.len x.h1.cap, .slice x.h2.a x.h2.len x.h2.cap] 103)).alloc (.cells #[.string f1] 9)).heap.size from Nat.le_trans Bs (by simp))
      have BA : Hid (∀ w5 : World, ((w1.alloc (.cells #[.string x.t.f0, .slice x.h1.a x.h1.len x.h1.cap, .slice x.h2.a x.h2.len x.h2.cap] 103)).alloc (.cells #[.string f1] 9)).grownBy w5 (Value.slice av L.length cv).ownBlock → Below w.heap.size w w5) := hide (fun w5 hgr => (bAl (unhide B) _).grown hgr (Nat.le_trans Bs (by simp)) (fun j hj => ((unhide O).lt j hj).1))
      have RA : Hid (∀ w5 : World, ((w1.alloc (.cells #[.string x.t.f0, .slice x.h1.a x.h1.len x.h1.cap, .slice x.h2.a x.h2.len x.h2.cap] 103)).alloc (.cells #[.string f1] 9)).grownBy w5 (Value.slice av L.length cv).ownBlock → RowIs w5 w.heap.size #[.slice h0.a h0.len h0.cap, .slice h1.a h1.len h1.cap, .slice h2.a h2.len h2.cap] 38) := hide (fun w5 hgr => row_grownO ((unhide R).keep (bAl (Below.refl _ _) _)) hgr (fun e => own_not (unhide O) (unhide R) (fun cur h => by simp at h) e.symm))
      have I1 := hide (unhide TAK ⟨hr, e0, e3', .inl e4⟩)
      clear TAK SKP HF qk RB e0 e3 e3' e4 hr
      go_wp2_with (at_builtin; refine wpList_append_own_at _ rfl _ _ 24 rfl w.heap.size 9 i0 _ 1 16 Tryz.underlying24 hi hz0 hz1 hz2 rfl (by decide) (.slice av L.length cv) _ _ rfl ((unhide O).alloc _) ⟨_, 0, none⟩ 1 1 [.string f1] rfl rfl (cell_one_at _ _ (by first | rfl | simp) _ _) (fun x hx => by simp at hx; subst hx; rfl) (by unfold maxLen; omega) t5 (unhide T4) ?_; intro v5 w5 hown5 hgrow5 _ _)
      have O5 : Hid (w5.ownsRow w.heap.size 9 1 v5 (L ++ [f1]).length ((L ++ [f1]).map Value.string)) := hide (by rw [List.map_append, List.length_append]; exact hown5)
      have B5 := hide (unhide BA w5 hgrow5)
      have R5 := hide (unhide RA w5 hgrow5)
      clear hown5 hgrow5 BA T4 O B R RA
      exact ⟨⟨k + 1, L ++ [f1], by omega, by go_num, by simp; omega, O5, I1, R5, B5⟩, by simp [Go.RowKit.intOf]; omega⟩
    have d4 : (f2.toList == []) = false := by have := str_neO e4; simpa using this
    by_cases e5 : CntF (gl.map (·.t)) t 3 f4 f2 f1
    case neg =>
      have I1 := hide (unhide SKP (fun h => h.2.2.2.elim e4 e5))
      have qf := hide (callsF5 (unhide qk) e5)
      clear SKP TAK HF qk RB e0 e3 e3' e4 e5 hr
      go_wp2_with fail
      refine (unhide qf).mono ?_
      rintro _ w4 ⟨rfl, hb4⟩
      replace O := hide (own_keep (unhide O) hb4)
      replace R := hide ((unhide R).keep hb4)
      replace B := hide (bTr (unhide B) hb4)
      clear hb4 qf
      go_wp2_with fail
      exact ⟨⟨k + 1, L, by omega, by go_num, by omega, O, I1, R, B⟩, by simp [Go.RowKit.intOf]; omega⟩
    have YY : Hid (AGd (rs.map (·.t)) (gl.map (·.t)) u t ⟨f0, f1, f2, f3, f4, f5⟩) := hide ⟨hr, e0, e3', .inr e5⟩
    have qf := hide (callsT5 (unhide qk) e5)
    clear SKP HF qk e0 e3 e3' e4 e5 hr
    go_wp2_with fail
    refine (unhide qf).mono ?_
    rintro _ w4 ⟨rfl, hb4⟩
    replace O := hide (own_keep (unhide O) hb4)
    replace R := hide ((unhide R).keep hb4)
    replace B := hide (bTr (unhide B) hb4)
    replace RB := hide ((unhide RB).keep hb4)
    clear hb4 qf y0 y1 y2 y3 y4
    have y1 := (unhide RB).at (o := 1) (v := .string f1) rfl
    have t5 : (L.length + 1) * 16 ≤ 140737488355328 := by omega
    have Bs := (unhide B).size
    have T4 := hide (show w.heap.size ≤ (w4.alloc (.cells #[.string f1] 9)).heap.size from Nat.le_trans Bs (by simp))
    have BA : Hid (∀ w5 : World, (w4.alloc (.cells #[.string f1] 9)).grownBy w5 (Value.slice av L.length cv).ownBlock → Below w.heap.size w w5) := hide (fun w5 hgr => (bAl (unhide B) _).grown hgr (Nat.le_trans Bs (by simp)) (fun j hj => ((unhide O).lt j hj).1))
    have RA : Hid (∀ w5 : World, (w4.alloc (.cells #[.string f1] 9)).grownBy w5 (Value.slice av L.length cv).ownBlock → RowIs w5 w.heap.size #[.slice h0.a h0.len h0.cap, .slice h1.a h1.len h1.cap, .slice h2.a h2.len h2.cap] 38) := hide (fun w5 hgr => row_grownO ((unhide R).keep (bAl (Below.refl _ _) _)) hgr (fun e => own_not (unhide O) (unhide R) (fun cur h => by simp at h) e.symm))
    have I1 := hide (unhide TAK (unhide YY))
    clear TAK YY RB
    go_wp2_with (at_builtin; refine wpList_append_own_at _ rfl _ _ 24 rfl w.heap.size 9 i0 _ 1 16 Tryz.underlying24 hi hz0 hz1 hz2 rfl (by decide) (.slice av L.length cv) _ _ rfl ((unhide O).alloc _) ⟨_, 0, none⟩ 1 1 [.string f1] rfl rfl (cell_one_at _ _ (by first | rfl | simp) _ _) (fun x hx => by simp at hx; subst hx; rfl) (by unfold maxLen; omega) t5 (unhide T4) ?_; intro v5 w5 hown5 hgrow5 _ _)
    have O5 : Hid (w5.ownsRow w.heap.size 9 1 v5 (L ++ [f1]).length ((L ++ [f1]).map Value.string)) := hide (by rw [List.map_append, List.length_append]; exact hown5)
    have B5 := hide (unhide BA w5 hgrow5)
    have R5 := hide (unhide RA w5 hgrow5)
    clear hown5 hgrow5 BA T4 O B R RA
    exact ⟨⟨k + 1, L ++ [f1], by omega, by go_num, by simp; omega, O5, I1, R5, B5⟩, by simp [Go.RowKit.intOf]; omega⟩
end Go.Proofs.YtfbncneeimikcaaGreat.V
/- spec.Authorised. -/
namespace Go.Proofs.YtfbncneeimikcaaGreat.V
set_option linter.unusedSimpArgs false
set_option linter.unusedVariables false
open Go.RowKit Go.Maps

/-- Where an answer is told of the state. -/
def AuOk (x : RoleSetT) (s : RoleStateT) (t : Int) : Prop := GRs x ∧ s.f3 ≤ t ∧ GSt s.f1 s.f2
/-- What Authorised answers. -/
def AuIs (x : RoleSetT) (s : RoleStateT) (u : ByteArray) (t : Int) (r : List ByteArray) : Prop := (AuOk x s t ∧ RisS r ∧ ∀ y, y ∈ r ↔ AuM x.f0 s.f1 u t y) ∨ (¬ AuOk x s t ∧ r = [])
theorem GSt.few {g : List RoleGrantT} {x : List RoleSessionT} (h : GSt g x) : g.length ≤ 300 := by have := h.1; omega
set_option maxRecDepth 40000 in
set_option maxHeartbeats 4000000 in
theorem sAuthorised_n (e : RoleSetE) (x : RoleStateE) (u : ByteArray) (t : Int) (w : World) (hn : RoleSetN e.t) (hm : RoleSetM w 0 e) (hxn : RoleStateN x.t) (hsm : RoleStateSm x.t) (hxm : RoleStateM w 0 x) :
    Calls Tryz.prog 6 #[.agg #[.slice e.h0.a e.h0.len e.h0.cap, .slice e.h1.a e.h1.len e.h1.cap, .slice e.h2.a e.h2.len e.h2.cap], .agg #[.slice x.h0.a x.h0.len x.h0.cap, .slice x.h1.a x.h1.len x.h1.cap, .slice x.h2.a x.h2.len x.h2.cap, .int .i64 x.t.f3], .string u, .int .i64 t] w fun r w' => (∃ v rr, r = .returned v ∧ AuIs e.t x.t u t rr ∧ w'.ownsRow w.heap.size 9 1 v rr.length (rr.map Value.string)) ∧ Below w.heap.size w w' := by
  have qg := hide (fun (w' : World) (hb : Below w.heap.size w w') => sGoodRoleSet_n e w' hn (hm.keep hb))
  obtain ⟨⟨xs, ps, gs⟩, h0, h1, h2⟩ := e
  obtain ⟨⟨os, gts, sts, f3⟩, g0, g1, g2⟩ := x
  obtain ⟨st, sa, sg, _⟩ := hm
  obtain ⟨ot, lt', oa, la', og, lg, _⟩ := hn
  obtain ⟨xo, xg, xs', _⟩ := hxm
  obtain ⟨_, _, no1, nl1, no2, nl2, _⟩ := hxn
  obtain ⟨_, sl1, _, sl2, so2, _⟩ := hsm
  simp only at st sa sg ot lt' oa la' og lg qg xo xg xs' no1 nl1 no2 nl2 sl1 sl2 so2 ⊢
  obtain ⟨l, rfl, st⟩ := st
  obtain ⟨gl, rfl, xg⟩ := xg
  obtain ⟨sl, rfl, xs'⟩ := xs'
  have HTN : Hid (∀ e ∈ l, RoleN e.t) := hide (fun e he => ot _ (List.mem_map_of_mem he))
  have HGN : Hid (∀ e ∈ gl, RoleGrantN e.t) := hide (fun e he => no1 _ (List.mem_map_of_mem he))
  have LTM : l.length ≤ maxLen := by simpa using lt'
  have SO2 : Hid (∀ e ∈ sl, RoleSessionSm e.t) := hide (fun e he => so2 _ (List.mem_map_of_mem he))
  have SL1 : gl.length ≤ 1048576 := by simpa using sl1
  have SL2 : sl.length ≤ 1048576 := by simpa using sl2
  have HT := hide st
  have HX := hide xg
  have HY := hide xs'

  have q1 := hide (fun (w' : World) (hb : Below w.heap.size w w') => l15Small_n g0 g1.a g1.len g1.cap g2.a g2.len g2.cap f3 gl sl w' SL1 SL2 (unhide SO2) (xg.keep hb) (xs'.keep hb))
  have q2 := hide (fun (w' : World) (hb : Below w.heap.size w w') (G : GRs ⟨l.map (·.t), ps, gs⟩) (S : GSt (gl.map (·.t)) (sl.map (·.t))) => l15Auth_n h0 h1 h2 l g1 gl u t w' LTM (st.keep hb) (unhide HTN) (grs_few G).1 (grs_few G).2 (by simpa using S.few) (unhide HGN) S.2 (xg.keep hb))
  have NIL : Hid (¬ (GRs ⟨l.map (·.t), ps, gs⟩ ∧ f3 ≤ t ∧ GSt (gl.map (·.t)) (sl.map (·.t))) → AuIs ⟨l.map (·.t), ps, gs⟩ ⟨os, gl.map (·.t), sl.map (·.t), f3⟩ u t []) := hide (fun h => .inr ⟨h, rfl⟩)
  have YES : Hid (∀ rr, GRs ⟨l.map (·.t), ps, gs⟩ → f3 ≤ t → GSt (gl.map (·.t)) (sl.map (·.t)) → RisS rr → (∀ y, y ∈ rr ↔ AuM (l.map (·.t)) (gl.map (·.t)) u t y) → AuIs ⟨l.map (·.t), ps, gs⟩ ⟨os, gl.map (·.t), sl.map (·.t), f3⟩ u t rr) := hide (fun rr a b c d e => .inl ⟨⟨a, b, c⟩, d, e⟩)
  generalize AuIs ⟨l.map (·.t), ps, gs⟩ ⟨os, gl.map (·.t), sl.map (·.t), f3⟩ u t = JI at NIL YES ⊢
  generalize GRs ⟨l.map (·.t), ps, gs⟩ = G at qg q2 NIL YES
  generalize GSt (gl.map (·.t)) (sl.map (·.t)) = S at q1 q2 NIL YES
  clear st sa sg ot lt' oa la' og lg LTM xo xg xs' no1 nl1 no2 nl2 sl1 sl2 so2 SL1 SL2 HT HX HY HTN HGN SO2
  have R := hide ((RowIs.new w #[.slice h0.a h0.len h0.cap, .slice h1.a h1.len h1.cap, .slice h2.a h2.len h2.cap] 38).keep (bAl (Below.refl _ _) (.cells #[.slice g0.a g0.len g0.cap, .slice g1.a g1.len g1.cap, .slice g2.a g2.len g2.cap, .int .i64 f3] 43)))
  have Q := hide (show RowIs ((w.alloc (.cells #[.slice h0.a h0.len h0.cap, .slice h1.a h1.len h1.cap, .slice h2.a h2.len h2.cap] 38)).alloc (.cells #[.slice g0.a g0.len g0.cap, .slice g1.a g1.len g1.cap, .slice g2.a g2.len g2.cap, .int .i64 f3] 43)) (w.heap.size + 1) #[.slice g0.a g0.len g0.cap, .slice g1.a g1.len g1.cap, .slice g2.a g2.len g2.cap, .int .i64 f3] 43 by have := RowIs.new (w.alloc (.cells #[.slice h0.a h0.len h0.cap, .slice h1.a h1.len h1.cap, .slice h2.a h2.len h2.cap] 38)) #[.slice g0.a g0.len g0.cap, .slice g1.a g1.len g1.cap, .slice g2.a g2.len g2.cap, .int .i64 f3] 43; simpa using this)
  have B := hide (bAl (bAl (Below.refl w.heap.size w) (.cells #[.slice h0.a h0.len h0.cap, .slice h1.a h1.len h1.cap, .slice h2.a h2.len h2.cap] 38)) (.cells #[.slice g0.a g0.len g0.cap, .slice g1.a g1.len g1.cap, .slice g2.a g2.len g2.cap, .int .i64 f3] 43))
  have qg1 := hide (unhide qg _ (unhide B))
  clear qg
  go_enter Tryz.func6, Tryz.ntmps6
  go_wp2_with fail
  refine (unhide qg1).mono ?_
  rintro r w1 ⟨⟨v, rfl, hv⟩, hb⟩
  have HV := hide hv
  replace R := hide ((unhide R).keep hb)
  replace Q := hide ((unhide Q).keep hb)
  replace B := hide (bTr (unhide B) hb)
  clear hb hv qg1
  cases v
  case false =>
    have no := hide (unhide NIL (fun h => by have := (unhide HV).2 h.1; cases this))
    clear NIL YES HV q1 q2
    go_wp2_with fail
    go_ret
    exact ⟨⟨_, [], rfl, unhide no, World.ownsRow_nil _ _ _ _⟩, unhide B⟩
  have GG := hide ((unhide HV).1 rfl)
  have r0 := (unhide R).at (o := 0) (v := .slice h0.a h0.len h0.cap) rfl
  have r1 := (unhide R).at (o := 1) (v := .slice h1.a h1.len h1.cap) rfl
  have r2 := (unhide R).at (o := 2) (v := .slice h2.a h2.len h2.cap) rfl
  have s0 := (unhide Q).at (o := 0) (v := .slice g0.a g0.len g0.cap) rfl
  have s1 := (unhide Q).at (o := 1) (v := .slice g1.a g1.len g1.cap) rfl
  have s2 := (unhide Q).at (o := 2) (v := .slice g2.a g2.len g2.cap) rfl
  have s3 := (unhide Q).at (o := 3) (v := .int .i64 f3) rfl
  by_cases e3 : t < f3
  case pos =>
    have d3 : decide (t < f3) = true := decide_eq_true e3
    have no := hide (unhide NIL (fun h => by have := h.2.1; omega))
    clear NIL YES HV q1 q2 e3
    go_wp2_with fail
    go_ret
    exact ⟨⟨_, [], rfl, unhide no, World.ownsRow_nil _ _ _ _⟩, unhide B⟩
  have d3 : decide (t < f3) = false := decide_eq_false e3
  have E3 := hide (show f3 ≤ t by omega)
  have qq := hide (unhide q1 _ (unhide B))
  clear q1 e3 HV
  go_wp2_with fail
  refine (unhide qq).mono ?_
  rintro r w2 ⟨⟨v, rfl, hv⟩, hb⟩
  have HV := hide hv
  replace R := hide ((unhide R).keep hb)
  replace Q := hide ((unhide Q).keep hb)
  replace B := hide (bTr (unhide B) hb)
  clear hb hv qq d3 r0 r1 r2 s0 s1 s2 s3
  cases v
  case false =>
    have no := hide (unhide NIL (fun h => by have := (unhide HV).2 h.2.2; cases this))
    clear NIL YES HV q2
    go_wp2_with fail
    go_ret
    exact ⟨⟨_, [], rfl, unhide no, World.ownsRow_nil _ _ _ _⟩, unhide B⟩
  have SS := hide ((unhide HV).1 rfl)
  have r0 := (unhide R).at (o := 0) (v := .slice h0.a h0.len h0.cap) rfl
  have r1 := (unhide R).at (o := 1) (v := .slice h1.a h1.len h1.cap) rfl
  have r2 := (unhide R).at (o := 2) (v := .slice h2.a h2.len h2.cap) rfl
  have s0 := (unhide Q).at (o := 0) (v := .slice g0.a g0.len g0.cap) rfl
  have s1 := (unhide Q).at (o := 1) (v := .slice g1.a g1.len g1.cap) rfl
  have s2 := (unhide Q).at (o := 2) (v := .slice g2.a g2.len g2.cap) rfl
  have s3 := (unhide Q).at (o := 3) (v := .int .i64 f3) rfl
  have qq := hide (unhide q2 _ (unhide B) (unhide GG) (unhide SS))
  clear q2 HV NIL
  go_wp2_with fail
  refine (unhide qq).mono ?_
  rintro r w3 ⟨⟨v, rr, rfl, hr3, ho⟩, hb⟩
  have JJ := hide (unhide YES rr (unhide GG) (unhide E3) (unhide SS) hr3.1 hr3.2)
  have HO := hide (own_base ho (unhide B).size)
  have B3 := hide (bTr (unhide B) hb)
  clear hr3 ho hb qq YES
  go_wp2_with fail
  go_ret
  exact ⟨⟨_, rr, rfl, unhide JJ, unhide HO⟩, unhide B3⟩
end Go.Proofs.YtfbncneeimikcaaGreat.V
