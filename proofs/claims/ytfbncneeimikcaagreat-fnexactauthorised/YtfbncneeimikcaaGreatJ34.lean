/- OVa, OVb, one behind the other. -/
import Derived.Test.YtfbncneeimikcaaGreatJ32
import Derived.Test.YtfbncneeimikcaaGreatJ33
import Derived.Test.YtfbncneeimikcaaGreatJ24
/- (impl.roleView).authorised. -/
namespace Go.Proofs.YtfbncneeimikcaaGreat.V
set_option linter.unusedSimpArgs false
set_option linter.unusedVariables false
open Go.RowKit Go.Maps

theorem get_run {P : Program} {k : TypeId} {α : Type} {enc : α → Value} {ok : α → Prop} {w : World} (K : KeyKind P k enc ok) {t e : TypeId} (ht : P.underlying t = some (.map k e)) {z : Value} (hz : (zeroValue e).run P w = .ok z w) {b n : Nat} {M : α → Option Value} (hk : KM P k enc w b n M) (y : α) (hy : ok y) {v : Value} (hv : (M y).getD z = v) :
    (Instr.lookup t (.map (some b)) (enc y) false).run P w = .ok v w := by
  obtain ⟨D, hown, hD⟩ := hk
  obtain ⟨kl, hkl⟩ := K.key y hy
  obtain ⟨v', ps, hrun, hv'⟩ := hown.lookup K.law ht hz (zd := .held z) (zp := []) rfl hkl
  obtain ⟨h1, h2⟩ := hD y kl hkl
  have e := kd_atKey h1 h2 hv'
  rw [hv] at e
  subst e
  exact hrun
/-- What is under the roles of a user. -/
def UnD (rs : List RoleT) (L : ByteArray → Option Nat) (y : ByteArray) : Prop := ∃ a, (ByteArray.size a ≤ maxLen ∧ (L a).isSome = true) ∧ a ∈ nms rs ∧ jmem rs a y
set_option maxRecDepth 40000 in
set_option maxHeartbeats 8000000 in
theorem authV_some (b1 b2 : Nat) (hp hg : Hd) (bd lo : Nat) (f5 : Int) (rs : List RoleE) (tabJ : ByteArray → Option Nat) (L : ByteArray → ByteArray → Option Nat) (tabD : ByteArray → Option Nat) (u : ByteArray) (w : World) (hu : u.size ≤ maxLen) (hn : ∀ e ∈ rs, RoleN e.t) (hJ : JM w b1 rs rs.length tabJ) (hD : DM w lo bd 900 L tabD) (b : Nat) (hT : tabD u = some b) :
    Calls Tryz.prog 34 #[.agg #[.map (some b1), .map (some b2), .slice hp.a hp.len hp.cap, .slice hg.a hg.len hg.cap, .map (some bd), .int .i64 f5], .string u] w fun e w' => (∃ bo, e = .returned (.map (some bo)) ∧ KStr w' bo 1000000 (chM (UnD (rs.map (·.t)) (L u)))) ∧ Below w.heap.size w w' := by
  obtain ⟨W, hW⟩ : ∃ W, W = w.alloc (.cells #[.map (some b1), .map (some b2), .slice hp.a hp.len hp.cap, .slice hg.a hg.len hg.cap, .map (some bd), .int .i64 f5] 72) := ⟨_, rfl⟩
  have bW : Below w.heap.size w W := by rw [hW]; exact bAl (Below.refl _ _) _
  have RW := hide (show RowIs W w.heap.size #[.map (some b1), .map (some b2), .slice hp.a hp.len hp.cap, .slice hg.a hg.len hg.cap, .map (some bd), .int .i64 f5] 72 by rw [hW]; exact RowIs.new w _ _)
  have BW := hide bW
  have JW := hide (hJ.keep bW)
  have DW := hide (hD.keep bW)
  have HN := hide hn
  have run : Hid (∀ w', Below W.heap.size W w' → (Instr.lookup 70 (.map (some bd)) (.string u) false).run Tryz.prog w' = .ok (.map (some b)) w') := hide (fun w' hb => get_run kStr Tryz.underlying70 (zeroDep _) ((unhide DW).keep hb).top u hu (by simp [topM, hT]))
  have q2 := hide (fun (w' : World) (hb : Below W.heap.size W w') => keysInt_any b 900 (intM (L u)) w' (((unhide DW).keep hb).kid u b hT) (by omega))
  have S0 : Hid (∀ w', Below W.heap.size W w' → w'.cell? ⟨w.heap.size, 0, none⟩ = some (.map (some b1)) ∧ w'.cell? ⟨w.heap.size, 1, none⟩ = some (.map (some b2)) ∧ w'.cell? ⟨w.heap.size, 2, none⟩ = some (.slice hp.a hp.len hp.cap) ∧ w'.cell? ⟨w.heap.size, 3, none⟩ = some (.slice hg.a hg.len hg.cap) ∧ w'.cell? ⟨w.heap.size, 4, none⟩ = some (.map (some bd)) ∧ (Instr.lookup 70 (.map (some bd)) (.string u) false).run Tryz.prog w' = .ok (.map (some b)) w') := hide (fun w' hb => ⟨((unhide RW).keep hb).at (o := 0) (v := .map (some b1)) rfl, ((unhide RW).keep hb).at (o := 1) (v := .map (some b2)) rfl, ((unhide RW).keep hb).at (o := 2) (v := .slice hp.a hp.len hp.cap) rfl, ((unhide RW).keep hb).at (o := 3) (v := .slice hg.a hg.len hg.cap) rfl, ((unhide RW).keep hb).at (o := 4) (v := .map (some bd)) rfl, unhide run w' hb⟩)
  have q3 := hide (fun (w' : World) (hb : Below W.heap.size W w') (h : Hd) (ns : List ByteArray) (h9 : ns.length ≤ 900) (ho : ∀ x ∈ ns, ByteArray.size x ≤ maxLen) (hs : SqS w' 0 h ns) => juniorsAll_n b1 b2 hp hg rs tabJ h ns w' h9 ho (unhide HN) ((unhide JW).keep hb) hs)
  have HW := hide hW.symm
  clear hW bW hJ hD hn hT run
  go_enter Tryz.func34, Tryz.ntmps34
  go_wp2_with fail
  rw [unhide HW]
  clear HW
  go_region_held3 (fun w' => w'.cell? ⟨w.heap.size, 0, none⟩ = some (.map (some b1)) ∧ w'.cell? ⟨w.heap.size, 1, none⟩ = some (.map (some b2)) ∧ w'.cell? ⟨w.heap.size, 2, none⟩ = some (.slice hp.a hp.len hp.cap) ∧ w'.cell? ⟨w.heap.size, 3, none⟩ = some (.slice hg.a hg.len hg.cap) ∧ w'.cell? ⟨w.heap.size, 4, none⟩ = some (.map (some bd)) ∧ (Instr.lookup 70 (.map (some bd)) (.string u) false).run Tryz.prog w' = .ok (.map (some b)) w')
    (first | exact unhide S0 _ (Below.refl _ _) | exact unhide S0 _ (unhide HB2) | exact unhide S0 _ (unhide HB2).drew | exact unhide S0 _ (Below.refl _ _).drew | (have h3 := unhide HB3; exact unhide S0 _ h3) | done)
    (first
      | (go_at_call 68; refine (unhide q2 _ (Below.refl _ _).drew).mono ?_; rintro e w2 ⟨⟨v, r, rfl, _, hm, hlen, ho⟩, hb⟩; replace hb := undrew hb; obtain ⟨av, cv, ev, sv⟩ := own_strs ho; subst ev; have HB2 := hide hb; have M2 : Hid (∀ y, (∃ a ∈ r, a ∈ nms (rs.map (·.t)) ∧ jmem (rs.map (·.t)) a y) ↔ UnD (rs.map (·.t)) (L u) y) := hide (fun y => exists_congr fun a => and_congr ((hm a).trans (by rw [intM_someO])) Iff.rfl); have q4 := hide (unhide q3 w2 hb ⟨av, r.length, cv⟩ r hlen (fun x hx => ((hm x).1 hx).1) (SqS.ofG sv)); clear hb hm ho sv)
      | (go_at_call 67; refine (unhide q4).mono ?_; rintro e w3 ⟨⟨bo, rfl, hk3⟩, hb3⟩; have K3 := hide hk3; have HB3 := hide (bTr (unhide HB2) hb3); clear hk3 hb3))
  iterate 14 (try clear hHeld)
  have FIN := hide (show KStr w3 bo 1000000 (chM (UnD (rs.map (·.t)) (L u))) by rw [← chM_congr (unhide M2)]; exact unhide K3)
  have BE := hide (bTr (unhide BW) (unhide HB3))
  clear K3 M2 S0 RW JW DW q3 q4
  go_wp2_with fail
  go_ret
  exact ⟨⟨bo, rfl, unhide FIN⟩, unhide BE⟩
set_option maxRecDepth 40000 in
set_option maxHeartbeats 8000000 in
theorem authV_none (b1 b2 : Nat) (hp hg : Hd) (bd lo : Nat) (f5 : Int) (rs : List RoleE) (tabJ : ByteArray → Option Nat) (L : ByteArray → ByteArray → Option Nat) (tabD : ByteArray → Option Nat) (u : ByteArray) (w : World) (hu : u.size ≤ maxLen) (hn : ∀ e ∈ rs, RoleN e.t) (hJ : JM w b1 rs rs.length tabJ) (hD : DM w lo bd 900 L tabD) (hT : tabD u = none) :
    Calls Tryz.prog 34 #[.agg #[.map (some b1), .map (some b2), .slice hp.a hp.len hp.cap, .slice hg.a hg.len hg.cap, .map (some bd), .int .i64 f5], .string u] w fun e w' => (∃ bo, e = .returned (.map (some bo)) ∧ KStr w' bo 1000000 (chM (UnD (rs.map (·.t)) (L u)))) ∧ Below w.heap.size w w' := by
  obtain ⟨W, hW⟩ : ∃ W, W = w.alloc (.cells #[.map (some b1), .map (some b2), .slice hp.a hp.len hp.cap, .slice hg.a hg.len hg.cap, .map (some bd), .int .i64 f5] 72) := ⟨_, rfl⟩
  have bW : Below w.heap.size w W := by rw [hW]; exact bAl (Below.refl _ _) _
  have RW := hide (show RowIs W w.heap.size #[.map (some b1), .map (some b2), .slice hp.a hp.len hp.cap, .slice hg.a hg.len hg.cap, .map (some bd), .int .i64 f5] 72 by rw [hW]; exact RowIs.new w _ _)
  have BW := hide bW
  have JW := hide (hJ.keep bW)
  have DW := hide (hD.keep bW)
  have HN := hide hn
  have run : Hid (∀ w', Below W.heap.size W w' → (Instr.lookup 70 (.map (some bd)) (.string u) false).run Tryz.prog w' = .ok (.map none) w') := hide (fun w' hb => get_run kStr Tryz.underlying70 (zeroDep _) ((unhide DW).keep hb).top u hu (by simp [topM, hT]))
  have q2 := hide (fun (w' : World) => keysInt_nil w')
  have LN : Hid (∀ r, L u r = none) := hide (fun r => hD.no u r hT)
  have S0 : Hid (∀ w', Below W.heap.size W w' → w'.cell? ⟨w.heap.size, 0, none⟩ = some (.map (some b1)) ∧ w'.cell? ⟨w.heap.size, 1, none⟩ = some (.map (some b2)) ∧ w'.cell? ⟨w.heap.size, 2, none⟩ = some (.slice hp.a hp.len hp.cap) ∧ w'.cell? ⟨w.heap.size, 3, none⟩ = some (.slice hg.a hg.len hg.cap) ∧ w'.cell? ⟨w.heap.size, 4, none⟩ = some (.map (some bd)) ∧ (Instr.lookup 70 (.map (some bd)) (.string u) false).run Tryz.prog w' = .ok (.map none) w') := hide (fun w' hb => ⟨((unhide RW).keep hb).at (o := 0) (v := .map (some b1)) rfl, ((unhide RW).keep hb).at (o := 1) (v := .map (some b2)) rfl, ((unhide RW).keep hb).at (o := 2) (v := .slice hp.a hp.len hp.cap) rfl, ((unhide RW).keep hb).at (o := 3) (v := .slice hg.a hg.len hg.cap) rfl, ((unhide RW).keep hb).at (o := 4) (v := .map (some bd)) rfl, unhide run w' hb⟩)
  have q3 := hide (fun (w' : World) (hb : Below W.heap.size W w') (h : Hd) (ns : List ByteArray) (h9 : ns.length ≤ 900) (ho : ∀ x ∈ ns, ByteArray.size x ≤ maxLen) (hs : SqS w' 0 h ns) => juniorsAll_n b1 b2 hp hg rs tabJ h ns w' h9 ho (unhide HN) ((unhide JW).keep hb) hs)
  have HW := hide hW.symm
  clear hW bW hJ hD hn hT run
  go_enter Tryz.func34, Tryz.ntmps34
  go_wp2_with fail
  rw [unhide HW]
  clear HW
  go_region_held3 (fun w' => w'.cell? ⟨w.heap.size, 0, none⟩ = some (.map (some b1)) ∧ w'.cell? ⟨w.heap.size, 1, none⟩ = some (.map (some b2)) ∧ w'.cell? ⟨w.heap.size, 2, none⟩ = some (.slice hp.a hp.len hp.cap) ∧ w'.cell? ⟨w.heap.size, 3, none⟩ = some (.slice hg.a hg.len hg.cap) ∧ w'.cell? ⟨w.heap.size, 4, none⟩ = some (.map (some bd)) ∧ (Instr.lookup 70 (.map (some bd)) (.string u) false).run Tryz.prog w' = .ok (.map none) w')
    (first | exact unhide S0 _ (Below.refl _ _) | exact unhide S0 _ (unhide HB2) | exact unhide S0 _ (unhide HB2).drew | exact unhide S0 _ (Below.refl _ _).drew | (have h3 := unhide HB3; exact unhide S0 _ h3) | done)
    (first
      | (go_at_call 68; refine (unhide q2 _).mono ?_; rintro e w2 ⟨⟨v, rfl, ho⟩, hb⟩; replace hb := undrew hb; obtain ⟨av, cv, ev, sv⟩ := own_strs (l := []) ho; subst ev; have HB2 := hide hb; have M2 : Hid (∀ y, (∃ a ∈ ([] : List ByteArray), a ∈ nms (rs.map (·.t)) ∧ jmem (rs.map (·.t)) a y) ↔ UnD (rs.map (·.t)) (L u) y) := hide (fun y => ⟨fun ⟨a, h, _⟩ => (by cases h), fun ⟨a, ⟨_, h⟩, _⟩ => (by rw [unhide LN] at h; cases h)⟩); have q4 := hide (unhide q3 w2 hb ⟨av, 0, cv⟩ [] (Nat.zero_le _) (fun x hx => (by cases hx)) (SqS.ofG sv)); clear hb ho sv LN)
      | (go_at_call 67; refine (unhide q4).mono ?_; rintro e w3 ⟨⟨bo, rfl, hk3⟩, hb3⟩; have K3 := hide hk3; have HB3 := hide (bTr (unhide HB2) hb3); clear hk3 hb3))
  iterate 14 (try clear hHeld)
  have FIN := hide (show KStr w3 bo 1000000 (chM (UnD (rs.map (·.t)) (L u))) by rw [← chM_congr (unhide M2)]; exact unhide K3)
  have BE := hide (bTr (unhide BW) (unhide HB3))
  clear K3 M2 S0 RW JW DW q3 q4
  go_wp2_with fail
  go_ret
  exact ⟨⟨bo, rfl, unhide FIN⟩, unhide BE⟩
theorem authV_n (b1 b2 : Nat) (hp hg : Hd) (bd lo : Nat) (f5 : Int) (rs : List RoleE) (tabJ : ByteArray → Option Nat) (L : ByteArray → ByteArray → Option Nat) (tabD : ByteArray → Option Nat) (u : ByteArray) (w : World) (hu : u.size ≤ maxLen) (hn : ∀ e ∈ rs, RoleN e.t) (hJ : JM w b1 rs rs.length tabJ) (hD : DM w lo bd 900 L tabD) :
    Calls Tryz.prog 34 #[.agg #[.map (some b1), .map (some b2), .slice hp.a hp.len hp.cap, .slice hg.a hg.len hg.cap, .map (some bd), .int .i64 f5], .string u] w fun e w' => (∃ bo, e = .returned (.map (some bo)) ∧ KStr w' bo 1000000 (chM (UnD (rs.map (·.t)) (L u)))) ∧ Below w.heap.size w w' := by
  cases hT : tabD u with
  | none => exact authV_none b1 b2 hp hg bd lo f5 rs tabJ L tabD u w hu hn hJ hD hT
  | some b => exact authV_some b1 b2 hp hg bd lo f5 rs tabJ L tabD u w hu hn hJ hD b hT
end Go.Proofs.YtfbncneeimikcaaGreat.V
/- impl.roleViewOf. -/
namespace Go.Proofs.YtfbncneeimikcaaGreat.V
set_option linter.unusedSimpArgs false
set_option linter.unusedVariables false
open Go.RowKit Go.Maps

theorem DM.rowS {w : World} {lo bd n : Nat} {L : ByteArray → ByteArray → Option Nat} {tab : ByteArray → Option Nat} {g : Nat} {cs : Array Value} (h : DM w lo bd n L tab) (hg : g < lo) : DM (w.setRow g cs) lo bd n L tab := by
  have gr : w.grownBy (w.setRow g cs) (some g) := ⟨rfl, rfl, rfl, by simp, fun j hj hj2 => by rw [setRow_other _ _ _ _ (fun e => hj2 (congrArg some e))]⟩
  exact ⟨h.base, h.top.kept gr (fun e => by have := Option.some.inj e; have := h.base; omega), fun a b e => (h.kid a b e).kept gr (fun e2 => by have := Option.some.inj e2; have := (h.ge a b e).1; omega), h.inj, h.ge, h.no⟩
/-- What roleViewOf answers. -/
def RvIs (w' : World) (ts : List RoleT) (gs : List RoleGrantT) (t : Int) (G : Prop) (r : Ending) : Prop := (¬ G ∧ r = .returned (.tuple #[.agg #[.map none, .map none, .slice none 0 0, .slice none 0 0, .map none, .int .i64 0], .bool false])) ∨ (G ∧ ∃ (b1 b2 : Nat) (hp hg : Hd) (bd lo : Nat) (rs : List RoleE) (tabJ : ByteArray → Option Nat) (L : ByteArray → ByteArray → Option Nat) (tabD : ByteArray → Option Nat), r = .returned (.tuple #[.agg #[.map (some b1), .map (some b2), .slice hp.a hp.len hp.cap, .slice hg.a hg.len hg.cap, .map (some bd), .int .i64 t], .bool true]) ∧ rs.map (·.t) = ts ∧ (∀ e ∈ rs, RoleN e.t) ∧ JM w' b1 rs rs.length tabJ ∧ DM w' lo bd 900 L tabD ∧ DpI gs t 3 0 L)
set_option maxRecDepth 40000 in
set_option maxHeartbeats 8000000 in
theorem roleViewOf_n (e : RoleSetE) (x : RoleStateE) (t : Int) (w : World) (hn : RoleSetN e.t) (hm : RoleSetM w 0 e) (hxn : RoleStateN x.t) (hsm : RoleStateSm x.t) (hxm : RoleStateM w 0 x) :
    Calls Tryz.prog 32 #[.agg #[.slice e.h0.a e.h0.len e.h0.cap, .slice e.h1.a e.h1.len e.h1.cap, .slice e.h2.a e.h2.len e.h2.cap], .agg #[.slice x.h0.a x.h0.len x.h0.cap, .slice x.h1.a x.h1.len x.h1.cap, .slice x.h2.a x.h2.len x.h2.cap, .int .i64 x.t.f3], .int .i64 t] w fun r w' => RvIs w' e.t.f0 x.t.f1 t (AuOk e.t x.t t) r ∧ Below w.heap.size w w' := by
  have qg := hide (fun (w' : World) (hb : Below w.heap.size w w') => roleIndexOf_n e w' hn (hm.keep hb))
  have RN0 := hide hn.o0
  obtain ⟨⟨xs, ps, gs⟩, h0, h1, h2⟩ := e
  obtain ⟨⟨os, gts, sts, f3⟩, g0, g1, g2⟩ := x
  obtain ⟨st, sa, sg, _⟩ := hm
  obtain ⟨ot, lt', oa, la', og, lg, _⟩ := hn
  obtain ⟨xo, xg, xs', _⟩ := hxm
  obtain ⟨_, _, no1, nl1, no2, nl2, _⟩ := hxn
  obtain ⟨_, sl1, _, sl2, so2, _⟩ := hsm
  simp only at st sa sg ot lt' oa la' og lg xo xg xs' no1 nl1 no2 nl2 sl1 sl2 so2 ⊢
  obtain ⟨l, rfl, st⟩ := st
  obtain ⟨gl, rfl, xg⟩ := xg
  obtain ⟨sl, rfl, xs'⟩ := xs'
  have HTN : Hid (∀ e ∈ l, RoleN e.t) := hide (fun e he => ot _ (List.mem_map_of_mem he))
  have HGN : Hid (∀ e ∈ gl, RoleGrantN e.t) := hide (fun e he => no1 _ (List.mem_map_of_mem he))
  have LTM : l.length ≤ maxLen := by simpa using lt'
  have SO2 : Hid (∀ e ∈ sl, RoleSessionSm e.t) := hide (fun e he => so2 _ (List.mem_map_of_mem he))
  have SL1 : gl.length ≤ 1048576 := by simpa using sl1
  have SL2 : sl.length ≤ 1048576 := by simpa using sl2
  have HT := hide st
  have HX := hide xg
  have HY := hide xs'

  have q1 := hide (fun (w' : World) (hb : Below w.heap.size w w') => isAsSaid_n g0 g1.a g1.len g1.cap g2.a g2.len g2.cap f3 gl sl w' SL1 SL2 (unhide SO2) (xg.keep hb) (xs'.keep hb))
  have q2 := hide (fun (w' : World) (hb : Below w.heap.size w w') (S : GSt (gl.map (·.t)) (sl.map (·.t))) => depthsAt_n g1 gl t w' (by simpa using S.few) (unhide HGN) S.2 (xg.keep hb))
  have AO : Hid (AuOk ⟨l.map (·.t), ps, gs⟩ ⟨os, gl.map (·.t), sl.map (·.t), f3⟩ t ↔ (GRs ⟨l.map (·.t), ps, gs⟩ ∧ f3 ≤ t ∧ GSt (gl.map (·.t)) (sl.map (·.t)))) := hide Iff.rfl
  simp only at RN0
  generalize AuOk ⟨l.map (·.t), ps, gs⟩ ⟨os, gl.map (·.t), sl.map (·.t), f3⟩ t = AK at AO ⊢
  generalize GRs ⟨l.map (·.t), ps, gs⟩ = G at qg AO
  generalize GSt (gl.map (·.t)) (sl.map (·.t)) = S at q1 q2 AO
  clear st sa sg ot lt' oa la' og lg LTM xo xg xs' no1 nl1 no2 nl2 sl1 sl2 so2 SL1 SL2 HT HX HY HTN HGN SO2
  have z0 : (((w.alloc (.cells #[.slice h0.a h0.len h0.cap, .slice h1.a h1.len h1.cap, .slice h2.a h2.len h2.cap] 38)).alloc (.cells #[.slice g0.a g0.len g0.cap, .slice g1.a g1.len g1.cap, .slice g2.a g2.len g2.cap, .int .i64 f3] 43)).alloc (.cells #[.map none, .map none, .slice none 0 0, .slice none 0 0, .map none, .int .i64 0] 72)).heap.size = w.heap.size + 1 + 1 + 1 := by simp
  have R := hide (((RowIs.new w #[.slice h0.a h0.len h0.cap, .slice h1.a h1.len h1.cap, .slice h2.a h2.len h2.cap] 38).keep (bAl (Below.refl _ _) (.cells #[.slice g0.a g0.len g0.cap, .slice g1.a g1.len g1.cap, .slice g2.a g2.len g2.cap, .int .i64 f3] 43))).keep (bAl (Below.refl _ _) (.cells #[.map none, .map none, .slice none 0 0, .slice none 0 0, .map none, .int .i64 0] 72)))
  have Q := hide (show RowIs (((w.alloc (.cells #[.slice h0.a h0.len h0.cap, .slice h1.a h1.len h1.cap, .slice h2.a h2.len h2.cap] 38)).alloc (.cells #[.slice g0.a g0.len g0.cap, .slice g1.a g1.len g1.cap, .slice g2.a g2.len g2.cap, .int .i64 f3] 43)).alloc (.cells #[.map none, .map none, .slice none 0 0, .slice none 0 0, .map none, .int .i64 0] 72)) (w.heap.size + 1) #[.slice g0.a g0.len g0.cap, .slice g1.a g1.len g1.cap, .slice g2.a g2.len g2.cap, .int .i64 f3] 43 by have := (RowIs.new (w.alloc (.cells #[.slice h0.a h0.len h0.cap, .slice h1.a h1.len h1.cap, .slice h2.a h2.len h2.cap] 38)) #[.slice g0.a g0.len g0.cap, .slice g1.a g1.len g1.cap, .slice g2.a g2.len g2.cap, .int .i64 f3] 43).keep (bAl (Below.refl _ _) (.cells #[.map none, .map none, .slice none 0 0, .slice none 0 0, .map none, .int .i64 0] 72)); simpa using this)
  have O := hide (show RowIs (((w.alloc (.cells #[.slice h0.a h0.len h0.cap, .slice h1.a h1.len h1.cap, .slice h2.a h2.len h2.cap] 38)).alloc (.cells #[.slice g0.a g0.len g0.cap, .slice g1.a g1.len g1.cap, .slice g2.a g2.len g2.cap, .int .i64 f3] 43)).alloc (.cells #[.map none, .map none, .slice none 0 0, .slice none 0 0, .map none, .int .i64 0] 72)) (w.heap.size + 1 + 1) #[.map none, .map none, .slice none 0 0, .slice none 0 0, .map none, .int .i64 0] 72 by have := RowIs.new ((w.alloc (.cells #[.slice h0.a h0.len h0.cap, .slice h1.a h1.len h1.cap, .slice h2.a h2.len h2.cap] 38)).alloc (.cells #[.slice g0.a g0.len g0.cap, .slice g1.a g1.len g1.cap, .slice g2.a g2.len g2.cap, .int .i64 f3] 43)) #[.map none, .map none, .slice none 0 0, .slice none 0 0, .map none, .int .i64 0] 72; simpa using this)
  have B := hide (bAl (bAl (bAl (Below.refl w.heap.size w) (.cells #[.slice h0.a h0.len h0.cap, .slice h1.a h1.len h1.cap, .slice h2.a h2.len h2.cap] 38)) (.cells #[.slice g0.a g0.len g0.cap, .slice g1.a g1.len g1.cap, .slice g2.a g2.len g2.cap, .int .i64 f3] 43)) (.cells #[.map none, .map none, .slice none 0 0, .slice none 0 0, .map none, .int .i64 0] 72))
  have qg1 := hide (unhide qg _ (unhide B))
  have hst := @run_store Tryz.prog
  clear qg
  go_enter Tryz.func32, Tryz.ntmps32
  go_wp2_with fail
  refine (unhide qg1).mono ?_
  rintro r w1 ⟨⟨b1, b2, hp, hg, ok, rs, rfl, hv, het, hsq, hb1, hj⟩, hb⟩
  rw [z0] at hb1
  have zz : w.heap.size + 1 + 1 + 1 ≤ w1.heap.size := by have := hb.size; rw [z0] at this; exact this
  have bX' := bTr hb (bAl (Below.refl _ _) (.cells #[.map (some b1), .map (some b2), .slice hp.a hp.len hp.cap, .slice hg.a hg.len hg.cap] 68))
  have HV := hide hv
  have ET := hide het
  have RN : Hid (∀ e ∈ rs, RoleN e.t) := hide (fun e he => unhide RN0 _ (by rw [← het]; exact List.mem_map_of_mem he))
  have HJ : Hid (ok = true → ∃ tab, JM (w1.alloc (.cells #[.map (some b1), .map (some b2), .slice hp.a hp.len hp.cap, .slice hg.a hg.len hg.cap] 68)) b1 rs rs.length tab) := hide (fun h => by obtain ⟨tab, h⟩ := hj h; exact ⟨tab, h.keep (bAl (Below.refl _ _) _)⟩)
  have RX := hide (RowIs.new w1 #[.map (some b1), .map (some b2), .slice hp.a hp.len hp.cap, .slice hg.a hg.len hg.cap] 68)
  replace Q := hide ((unhide Q).keep bX')
  replace O := hide ((unhide O).keep bX')
  replace B := hide (bTr (unhide B) bX')
  clear hb hv het hsq hj bX' qg1 R z0 RN0
  cases ok
  case false =>
    have no : Hid (¬ AK) := hide (fun h => by have := (unhide HV).2 ((unhide AO).1 h).1; cases this)
    clear HV AO q1 q2 HJ RX RN ET
    have o0 := (unhide O).at (o := 0) (v := .map none) rfl
    have o1 := (unhide O).at (o := 1) (v := .map none) rfl
    have o2 := (unhide O).at (o := 2) (v := .slice none 0 0) rfl
    have o3 := (unhide O).at (o := 3) (v := .slice none 0 0) rfl
    have o4 := (unhide O).at (o := 4) (v := .map none) rfl
    have o5 := (unhide O).at (o := 5) (v := .int .i64 0) rfl
    have f0 := (unhide O).froz 0
    have f1 := (unhide O).froz 1
    have f2 := (unhide O).froz 2
    have f3 := (unhide O).froz 3
    have f4 := (unhide O).froz 4
    have f5 := (unhide O).froz 5
    go_wp2_with fail
    refine bodyPost_ret (v := .tuple #[.agg #[.map none, .map none, .slice none 0 0, .slice none 0 0, .map none, .int .i64 0], .bool false]) (by simp [results, Tryz.results32, go_sem, o0, o1, o2, o3, o4, o5]) rfl ⟨.inl ⟨unhide no, rfl⟩, ?_⟩
    repeat refine bSt ?_ (by omega) _ _
    exact unhide B
  have GG := hide ((unhide HV).1 rfl)
  obtain ⟨tab, hJ⟩ := unhide HJ rfl
  have JJ := hide hJ
  clear hJ HJ HV
  have s3 := (unhide Q).at (o := 3) (v := .int .i64 f3) rfl
  by_cases e3 : t < f3
  case pos =>
    have d3 : decide (t < f3) = true := decide_eq_true e3
    have no : Hid (¬ AK) := hide (fun h => by have := ((unhide AO).1 h).2.1; omega)
    clear AO q1 q2 RX RN ET e3 JJ
    have o0 := (unhide O).at (o := 0) (v := .map none) rfl
    have o1 := (unhide O).at (o := 1) (v := .map none) rfl
    have o2 := (unhide O).at (o := 2) (v := .slice none 0 0) rfl
    have o3 := (unhide O).at (o := 3) (v := .slice none 0 0) rfl
    have o4 := (unhide O).at (o := 4) (v := .map none) rfl
    have o5 := (unhide O).at (o := 5) (v := .int .i64 0) rfl
    have f0 := (unhide O).froz 0
    have f1 := (unhide O).froz 1
    have f2 := (unhide O).froz 2
    have f3 := (unhide O).froz 3
    have f4 := (unhide O).froz 4
    have f5 := (unhide O).froz 5
    go_wp2_with fail
    refine bodyPost_ret (v := .tuple #[.agg #[.map none, .map none, .slice none 0 0, .slice none 0 0, .map none, .int .i64 0], .bool false]) (by simp [results, Tryz.results32, go_sem, o0, o1, o2, o3, o4, o5]) rfl ⟨.inl ⟨unhide no, rfl⟩, ?_⟩
    repeat refine bSt ?_ (by omega) _ _
    exact unhide B
  have d3 : decide (t < f3) = false := decide_eq_false e3
  have E3 := hide (show f3 ≤ t by omega)
  have s0 := (unhide Q).at (o := 0) (v := .slice g0.a g0.len g0.cap) rfl
  have s1 := (unhide Q).at (o := 1) (v := .slice g1.a g1.len g1.cap) rfl
  have s2 := (unhide Q).at (o := 2) (v := .slice g2.a g2.len g2.cap) rfl
  have qq := hide (unhide q1 _ (unhide B))
  clear q1 e3
  go_wp2_with fail
  refine (unhide qq).mono ?_
  rintro r w2 ⟨⟨v, rfl, hv⟩, hb⟩
  have HV := hide hv
  replace RX := hide ((unhide RX).keep hb)
  replace Q := hide ((unhide Q).keep hb)
  replace O := hide ((unhide O).keep hb)
  replace B := hide (bTr (unhide B) hb)
  replace JJ := hide ((unhide JJ).keep hb)
  have z2 : w.heap.size + 1 + 1 + 1 ≤ w2.heap.size := by have := hb.size; simp at this; omega
  clear hb hv qq d3 s0 s1 s2 s3
  cases v
  case false =>
    have no : Hid (¬ AK) := hide (fun h => by have := (unhide HV).2 ((unhide AO).1 h).2.2; cases this)
    clear AO q2 RX RN ET JJ HV
    have o0 := (unhide O).at (o := 0) (v := .map none) rfl
    have o1 := (unhide O).at (o := 1) (v := .map none) rfl
    have o2 := (unhide O).at (o := 2) (v := .slice none 0 0) rfl
    have o3 := (unhide O).at (o := 3) (v := .slice none 0 0) rfl
    have o4 := (unhide O).at (o := 4) (v := .map none) rfl
    have o5 := (unhide O).at (o := 5) (v := .int .i64 0) rfl
    have f0 := (unhide O).froz 0
    have f1 := (unhide O).froz 1
    have f2 := (unhide O).froz 2
    have f3 := (unhide O).froz 3
    have f4 := (unhide O).froz 4
    have f5 := (unhide O).froz 5
    go_wp2_with fail
    refine bodyPost_ret (v := .tuple #[.agg #[.map none, .map none, .slice none 0 0, .slice none 0 0, .map none, .int .i64 0], .bool false]) (by simp [results, Tryz.results32, go_sem, o0, o1, o2, o3, o4, o5]) rfl ⟨.inl ⟨unhide no, rfl⟩, ?_⟩
    repeat refine bSt ?_ (by omega) _ _
    exact unhide B
  have SS := hide ((unhide HV).1 rfl)
  have YES := hide ((unhide AO).2 ⟨unhide GG, unhide E3, unhide SS⟩)
  have qd := hide (unhide q2 w2.drew (unhide B).drew (unhide SS))
  clear q2 HV AO
  obtain ⟨bX, hbX⟩ : ∃ b, b = w1.heap.size := ⟨_, rfl⟩
  obtain ⟨bD, hbD⟩ : ∃ b, b = w2.drew.heap.size := ⟨_, rfl⟩
  have zD : w.heap.size + 1 + 1 + 1 ≤ bD := by rw [hbD]; exact z2
  rw [← hbD] at qd
  rw [← hbX] at RX zz
  go_wp2_with fail
  rw [← hbX]
  have HBD := hide hbD
  clear hbX hbD hst
  refine wp_region_held_drew (S := fun w' => RowIs w' bX #[.map (some b1), .map (some b2), .slice hp.a hp.len hp.cap, .slice hg.a hg.len hg.cap] 68 ∧ RowIs w' (w.heap.size + 1) #[.slice g0.a g0.len g0.cap, .slice g1.a g1.len g1.cap, .slice g2.a g2.len g2.cap, .int .i64 f3] 43 ∧ ∃ C : Array Value, RowIs w' (w.heap.size + 1 + 1) C 72 ∧ C.size = 6) (by kernel_rfl) ⟨unhide RX, unhide Q, _, unhide O, rfl⟩ (fun hHeld => ?_)
  refine takeD (i := 0) (v := .agg #[.map (some b1), .map (some b2), .slice hp.a hp.len hp.cap, .slice hg.a hg.len hg.cap]) (d := some 29) rfl (by kernel_rfl) (by kernel_rfl) (by kernel_rfl) (by kernel_rfl) (fun _ _ _ h => h) (yields_row (by kernel_rfl) 68 _ rfl bX rfl 68 _ _ (fun w h => h.1) Tryz.underlying68 rfl (by kernel_rfl)) (by assumption) ?_
  try simp only [Act.put, List.setIfInBounds_toArray, List.set_cons_zero, List.set_cons_succ]
  refine takeD (i := 1) (v := .pointer (some ⟨w.heap.size + 1, 1, none⟩)) (d := some 30) rfl (by kernel_rfl) (by kernel_rfl) (by kernel_rfl) (by kernel_rfl) (fun _ _ _ h => h) (.inl ⟨by kernel_rfl, fun w hSw => ?_⟩) (by assumption) ?_
  · go_simp
  try simp only [Act.put, List.setIfInBounds_toArray, List.set_cons_zero, List.set_cons_succ]
  refine takeD (i := 2) (v := .slice g1.a g1.len g1.cap) (d := some 31) rfl (by kernel_rfl) (by kernel_rfl) (by kernel_rfl) (by kernel_rfl) (fun _ _ _ h => h) (.inl ⟨by kernel_rfl, fun w hSw => ?_⟩) (by assumption) ?_
  · have c := hSw.2.1.at (o := 1) (v := .slice g1.a g1.len g1.cap) rfl
    go_simp
  try simp only [Act.put, List.setIfInBounds_toArray, List.set_cons_zero, List.set_cons_succ]
  refine takeD (i := 3) (v := .int .i64 t) (d := some 32) rfl (by kernel_rfl) (by kernel_rfl) (by kernel_rfl) (by kernel_rfl) (fun _ _ _ h => h) (.inl ⟨by kernel_rfl, fun w hSw => ?_⟩) (by assumption) ?_
  · go_simp
  try simp only [Act.put, List.setIfInBounds_toArray, List.set_cons_zero, List.set_cons_succ]
  refine takeD (i := 5) (v := .int .i64 t) (d := some 34) rfl (by kernel_rfl) (by kernel_rfl) (by kernel_rfl) (by kernel_rfl) (fun _ _ _ h => h) (.inl ⟨by kernel_rfl, fun w hSw => ?_⟩) (by assumption) ?_
  · go_simp
  try simp only [Act.put, List.setIfInBounds_toArray, List.set_cons_zero, List.set_cons_succ]
  refine wpAnyH_ready (rs := [4]) (by kernel_rfl) (by simp) ?_
  refine AllReadyH.cons (by rfl) (fun K hK => ?_) AllReadyH.nil
  go_simp
  refine (unhide qd).mono ?_
  rintro r_ w4 ⟨⟨L, tabD, rfl, hd4, hp4⟩, hb4⟩
  rw [unhide HBD] at hb4
  replace hb4 := undrew hb4
  try dsimp only
  refine hK.out _ _ ⟨(unhide RX).keep hb4, (unhide Q).keep hb4, _, (unhide O).keep hb4, rfl⟩ (fun hHeld4 => ?_)
  have D4 := hide hd4
  have P4 := hide hp4
  have J4 := hide ((unhide JJ).keep hb4)
  have B4 := hide (bTr (unhide B) hb4)
  clear hK K hHeld hd4 hp4 hb4
  try simp only [Act.put, List.setIfInBounds_toArray, List.set_cons_zero, List.set_cons_succ]
  refine takeD (i := 6) (v := .agg #[.map (some b1), .map (some b2), .slice hp.a hp.len hp.cap, .slice hg.a hg.len hg.cap, .map (some bD), .int .i64 t]) (d := some 35) rfl (by kernel_rfl) (by kernel_rfl) (by kernel_rfl) (by kernel_rfl) (fun _ _ _ h => h) (.inl ⟨by kernel_rfl, fun w hSw => ?_⟩) (by assumption) ?_
  · go_simp
  try simp only [Act.put, List.setIfInBounds_toArray, List.set_cons_zero, List.set_cons_succ]
  refine wpAnyH_ready (rs := [7]) (by kernel_rfl) (by simp) ?_
  refine AllReadyH.cons (by rfl) (fun K hK => ?_) AllReadyH.nil
  rw [if_pos (by kernel_rfl)]
  obtain ⟨C, hC, hCs⟩ := hHeld4.2.2
  refine wp_store_row 72 _ _ rfl (w.heap.size + 1 + 1) #[.map (some b1), .map (some b2), .slice hp.a hp.len hp.cap, .slice hg.a hg.len hg.cap, .map (some bD), .int .i64 t] rfl rfl 72 C hC (by kernel_rfl) hCs (by simp [Value.oneCell']) ?_
  have F : RowIs (World.setRow w4 (w.heap.size + 1 + 1) #[.map (some b1), .map (some b2), .slice hp.a hp.len hp.cap, .slice hg.a hg.len hg.cap, .map (some bD), .int .i64 t]) (w.heap.size + 1 + 1) #[.map (some b1), .map (some b2), .slice hp.a hp.len hp.cap, .slice hg.a hg.len hg.cap, .map (some bD), .int .i64 t] 72 := setRow_heap _ _ _ _ _ _ hC
  have FX : RowIs (World.setRow w4 (w.heap.size + 1 + 1) #[.map (some b1), .map (some b2), .slice hp.a hp.len hp.cap, .slice hg.a hg.len hg.cap, .map (some bD), .int .i64 t]) bX #[.map (some b1), .map (some b2), .slice hp.a hp.len hp.cap, .slice hg.a hg.len hg.cap] 68 := by unfold RowIs; rw [setRow_other _ _ _ _ (by omega)]; exact hHeld4.1
  have FT : RowIs (World.setRow w4 (w.heap.size + 1 + 1) #[.map (some b1), .map (some b2), .slice hp.a hp.len hp.cap, .slice hg.a hg.len hg.cap, .map (some bD), .int .i64 t]) (w.heap.size + 1) #[.slice g0.a g0.len g0.cap, .slice g1.a g1.len g1.cap, .slice g2.a g2.len g2.cap, .int .i64 f3] 43 := by unfold RowIs; rw [setRow_other _ _ _ _ (by omega)]; exact hHeld4.2.1
  refine hK.out _ _ ⟨FX, FT, _, F, rfl⟩ (fun hHeldZ => ?_)
  have HF := hide F
  clear hK K hC hCs F FX FT hHeld4
  try simp only [Act.put, List.setIfInBounds_toArray, List.set_cons_zero, List.set_cons_succ]
  refine takeD (i := 8) (v := .bool true) (d := some 7) rfl (by kernel_rfl) (by kernel_rfl) (by kernel_rfl) (by kernel_rfl) (fun _ _ _ h => h) (.inl ⟨by kernel_rfl, fun w hSw => ?_⟩) (by assumption) ?_
  · go_simp
  try simp only [Act.put, List.setIfInBounds_toArray, List.set_cons_zero, List.set_cons_succ]
  refine wpAnyH_done (by kernel_rfl) ?_ _
  clear hHeldZ
  go_wp2_with fail
  refine bodyPost_ret (v := .tuple #[.agg #[.map (some b1), .map (some b2), .slice hp.a hp.len hp.cap, .slice hg.a hg.len hg.cap, .map (some bD), .int .i64 t], .bool true]) ?_ rfl ?_
  · exact results_two5 rfl _ _ (w.heap.size + 1 + 1) 72 #[.map (some b1), .map (some b2), .slice hp.a hp.len hp.cap, .slice hg.a hg.len hg.cap, .map (some bD), .int .i64 t] (0, 0) _ (.bool true) rfl rfl (unhide HF) Tryz.underlying72 rfl (by kernel_rfl)
  · exact ⟨.inr ⟨unhide YES, b1, b2, hp, hg, bD, bD, rs, tab, L, tabD, rfl, unhide ET, unhide RN, (unhide J4).rowS (by omega), (unhide D4).rowS (by omega), unhide P4⟩, bRow (unhide B4) (by omega) _⟩
end Go.Proofs.YtfbncneeimikcaaGreat.V
