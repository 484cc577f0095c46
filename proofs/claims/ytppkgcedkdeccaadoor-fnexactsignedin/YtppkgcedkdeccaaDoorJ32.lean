/- LPv, LPw, LPx, one behind the other. -/
import Derived.Test.YtppkgcedkdeccaaDoorJ31
import Derived.Test.YtppkgcedkdeccaaDoorJ23
import Derived.Test.YtppkgcedkdeccaaDoorJ24
import Derived.Laws.AppendOwn
import Derived.OwnWalk
/- Sessions: an answer, whole. -/
namespace Go.Proofs.YtppkgcedkdeccaaDoor
set_option linter.unusedSimpArgs false
set_option linter.unusedVariables false
set_option maxRecDepth 20000
open Go.RowKit Go.Maps

section
variable {w0 w : World} {b : Nat} {ka : Option Addr} {kl kc : Nat} {x : SsT} {mo me : Nat} {ov : Value} {Q : List BlT} {M : ByteArray → Option Value} {n : Nat}
theorem ans_any (h : PsAt w0 w b ka kl kc x mo me ov Q M n) (hn : n ≤ x.given) (ok : OkS x) (hg : x.given ≤ 990) (k t : Int) (u d i : ByteArray) (hu : u.size ≤ maxLen) (hd : d.size ≤ maxLen) (hi : i.size ≤ maxLen) (hK : D.SlB w0 w0.heap.size ka kl x.key) (hkl : kl ≤ 64) (hM : D.Mults w0) (hT : Tab w0) :
    ∃ x' r, StepS x k t u d i x' r ∧ Calls Tryd.prog 52 #[.pointer (some ⟨b, 0, none⟩), .agg #[.int .i64 k, .int .i64 t, .string u, .string d, .string i]] w (AnsIs w0 w b ka kl kc x' mo me r) := by
  cases hf : fitE k t u d i with
  | false => exact ⟨_, _, .unfit hf, ans_unfit h hn k t u d i hu hd hf⟩
  | true =>
  by_cases ht : t < x.now
  · exact ⟨_, _, .past hf ht, ans_past h hn k t u d i hu hd hf ht⟩
  have ht' : x.now ≤ t := by omega
  have hQ : Q.length ≤ 990 := by have := ok.ln; have := h.len; omega
  by_cases k1 : k = 1
  · subst k1
    exact ⟨_, _, .login hf ht' rfl, ans_login h hn hg hQ t u d i hu hd hK hkl hM hT hf ht⟩
  by_cases k5 : k = 5
  · subst k5
    exact ⟨_, _, .all hf ht' rfl, ans_all h hn t u d i hu hd hf ht⟩
  have b1 : (k == 1) = false := by simpa using k1
  have b5 : (k == 5) = false := by simpa using k5
  cases hfi : findI (idsL x.list) i with
  | none =>
    exact ⟨_, _, .unknown hf ht' k1 k5 hfi, ans_err h hn k t u d i hu hd hf ht b1 b5 3 (by decide) { x with now := t } (fun W7 h7 => (sh_unknown h7 k t u d i hi hfi).mono (fun e w' ⟨a1, a2, a3⟩ => ⟨a1, ⟨ov, Q, M, n, hn, a2⟩, a3⟩))⟩
  | some j =>
  have hjx : j < x.list.length := by
    have q := (findK_some hfi).1
    unfold idsL at q
    simpa using q
  have hj : j < Q.length := by rw [h.len]; exact hjx
  have okj := ok.all _ (List.getElem_mem hjx)
  by_cases hs : lastI x.list[j].ids = i ∧ x.list[j].device = d
  · cases hde : x.list[j].dead with
    | true =>
      exact ⟨_, _, .dead j hjx hf ht' k1 k5 hfi hs hde, ans_err h hn k t u d i hu hd hf ht b1 b5 5 (by decide) { x with now := t } (fun W7 h7 => (sh_dead h7 k t u d i hi hd hj hfi hs hde).mono (fun e w' ⟨a1, a2, a3⟩ => ⟨a1, ⟨ov, Q, M, n, hn, a2⟩, a3⟩))⟩
    | false =>
      have oi := ok.id
      have om := ok.mo
      cases ho : overS x x.list[j] t with
      | true =>
        exact ⟨_, _, .over j hjx hf ht' k1 k5 hfi hs hde ho, ans_err h hn k t u d i hu hd hf ht b1 b5 6 (by decide) { x with now := t } (fun W7 h7 => (sh_over h7 k t u d i hi hd hj hfi hs hde okj.lg okj.la ⟨by show 0 ≤ x.idle; omega, oi.2⟩ ⟨by show 0 ≤ x.most; omega, om.2⟩ ho).mono (fun e w' ⟨a1, a2, a3⟩ => ⟨a1, ⟨ov, Q, M, n, hn, a2⟩, a3⟩))⟩
      | false =>
        have hsh := fun W7 (h7 : PsAt w0 W7 b ka kl kc { x with now := t } mo me ov Q M n) => sh_fine h7 k t u d i hi hd hj hfi hs hde okj.lg okj.la ⟨by show 0 ≤ x.idle; omega, oi.2⟩ ⟨by show 0 ≤ x.most; omega, om.2⟩ ho
        by_cases k3 : k = 3
        · subst k3
          have hz : ∀ l ∈ idsL x.list, idOf x.key (x.given + 1) ∉ l := by
            intro l hl hm
            obtain ⟨s, hs2, rfl⟩ := List.mem_map.1 hl
            obtain ⟨m, m1, m2, e⟩ := (ok.all s hs2).ids _ hm
            have := idOf_inj e
            omega
          have q := ans_used h hn 3 t u d i hu hd hf ht b1 b5 { x with now := t, given := x.given + 1, list := x.list.set j (raiX x.list[j] t (idOf x.key (x.given + 1))) } hj (raiX x.list[j] t (idOf x.key (x.given + 1))) hsh (fun W8 h8 => use_raise h8 hn hj okj.lv (by show x.given ≤ 999; omega) hz hK hkl hM hT)
          have e : toldR (raiX x.list[j] t (idOf x.key (x.given + 1))) = ⟨0, idOf x.key (x.given + 1), x.list[j].user, min (x.list[j].level + 1) 9⟩ := by
            unfold toldR raiX
            simp only [lastI_snoc]
          rw [e] at q
          exact ⟨_, _, .raise j hjx hf ht' rfl hfi hs hde ho, q⟩
        · by_cases k4 : k = 4
          · subst k4
            exact ⟨_, _, .out j hjx hf ht' rfl hfi hs hde ho, ans_used h hn 4 t u d i hu hd hf ht b1 b5 { x with now := t, list := x.list.set j { lastX x.list[j] t with dead := true } } hj (lastX x.list[j] t) hsh (fun W8 h8 => use_out h8 hn hj)⟩
          · exact ⟨_, _, .use j hjx hf ht' k1 k5 hfi hs hde ho k3 k4, ans_used h hn k t u d i hu hd hf ht b1 b5 { x with now := t, list := x.list.set j (lastX x.list[j] t) } hj (lastX x.list[j] t) hsh (fun W8 h8 => use_plain h8 hn hj k k3 k4)⟩
  · exact ⟨_, _, .stolen j hjx hf ht' k1 k5 hfi hs, ans_err h hn k t u d i hu hd hf ht b1 b5 4 (by decide) _ (fun W7 h7 => sh_stolen h7 hn k t u d i hi hd hj hfi hs)⟩
end
end Go.Proofs.YtppkgcedkdeccaaDoor
/- Sessions: none yet. -/
namespace Go.Proofs.YtppkgcedkdeccaaDoor
set_option linter.unusedSimpArgs false
set_option linter.unusedVariables false
set_option maxRecDepth 20000
open Go.RowKit Go.Maps

theorem sOf_ps (ka : Option Addr) (kl kc : Nat) (key : List UInt8) (idle most : Int) (w0 w : World) (hb : Below w0.heap.size w0 w) (o : Obj) :
    PsAt w0 ((((w.alloc o).alloc (.map #[] 0)).alloc (.map #[] 0)).alloc (.cells (vC ka kl kc (xS0 key idle most) (w.heap.size + 1) (w.heap.size + 1 + 1) (.slice none 0 0)) 69)) (w.heap.size + 1 + 1 + 1) ka kl kc (xS0 key idle most) (w.heap.size + 1) (w.heap.size + 1 + 1) (.slice none 0 0) [] (fun _ => none) 0 := by
  obtain ⟨W1, hW1⟩ : ∃ W, W = w.alloc o := ⟨_, rfl⟩
  rw [← hW1]
  have z1 : W1.heap.size = w.heap.size + 1 := by rw [hW1]; simp
  have z2 : (W1.alloc (.map #[] 0)).heap.size = w.heap.size + 1 + 1 := by simp [z1]
  have z3 : ((W1.alloc (.map #[] 0)).alloc (.map #[] 0)).heap.size = w.heap.size + 1 + 1 + 1 := by simp [z1]
  have b1 : Below w.heap.size w W1 := by rw [hW1]; exact bAl (Below.refl _ _) o
  have k1 := KM.made Tryd.prog 9 Value.string W1
  have k2 := KM.made Tryd.prog 9 Value.string (W1.alloc (.map #[] 0))
  rw [z1] at k1
  rw [z2] at k2
  have bz := hb.size
  have k1b := (k1.keepB (bAl (Below.refl _ _) (.map #[] 0)) k1.lt)
  have im : idMap (xS0 key idle most) [] = fun _ => none := by funext y; rfl
  have cd := fun O => bAl (bAl (bAl b1 (.map #[] 0)) (.map #[] 0)) O
  refine ⟨?_, rfl, fun i hi => absurd hi (Nat.not_lt_zero _), fun i hi => absurd hi (Nat.not_lt_zero _), fun i hi => absurd hi (Nat.not_lt_zero _), fun i hi => absurd hi (Nat.not_lt_zero _), fun i j hi => absurd hi (Nat.not_lt_zero _), fun i j hi => absurd hi (Nat.not_lt_zero _), fun i j hi => absurd hi (Nat.not_lt_zero _), ?_, ?_, (fun u v hv => by cases hv), fun i hi => absurd hi (Nat.not_lt_zero _), (fun u u' v hv => by cases hv), World.ownsRow_nil _ _ _ _, fun i hi => absurd hi (Nat.not_lt_zero _), ⟨by omega, by omega, by omega, by omega, by omega, by omega⟩, bTr hb (cd _), by omega⟩
  · rw [← z3]
    exact RowIs.new _ _ _
  · rw [im]
    exact k1b.keepB (bAl (Below.refl _ _) _) k1b.lt
  · exact k2.keepB (bAl (Below.refl _ _) _) k2.lt
theorem sOf_any (ka : Option Addr) (kl kc : Nat) (key : List UInt8) (idle most : Int) (w0 w : World) (hb : Below w0.heap.size w0 w) :
    Calls Tryd.prog 51 #[.agg #[.slice ka kl kc, .int .i64 idle, .int .i64 most]] w fun e w' => ∃ b mo me, e = .returned (.pointer (some ⟨b, 0, none⟩)) ∧ b = w.heap.size + 3 ∧ PsAt w0 w' b ka kl kc (xS0 key idle most) mo me (.slice none 0 0) [] (fun _ => none) 0 ∧ Below w.heap.size w w' := by
  have hmm := @run_makeMap Tryd.prog
  have HP := hide (fun o => sOf_ps ka kl kc key idle most w0 w hb o)
  go_enter Tryd.func51, Tryd.ntmps51
  go_wp2_with fail
  go_ret
  exact ⟨_, _, _, rfl, rfl, unhide HP _, bAl (bAl (bAl (bAl (Below.refl _ _) _) _) _) _⟩
end Go.Proofs.YtppkgcedkdeccaaDoor
/- Sessions: the program's run. -/
namespace Go.Proofs.YtppkgcedkdeccaaDoor
set_option linter.unusedSimpArgs false
set_option linter.unusedVariables false
set_option maxRecDepth 20000
open Go.RowKit Go.Maps

/-- What lies behind m events, by the program. -/
structure PrR (w : World) (ka : Option Addr) (kl kc : Nat) (x0 : SsT) (l : List SessEventT) (m : Nat) (v : Value) (w' : World) (b mo me : Nat) (x' : SsT) (rs : List SessReplyT) : Prop where
  run : RunS x0 (l.take m) x' rs
  len : rs.length = m
  ok : OkS x'
  gv : x'.given ≤ m
  ky : x'.key = x0.key ∧ x'.idle = x0.idle ∧ x'.most = x0.most
  ps : ∃ ov Q M n, n ≤ x'.given ∧ PsAt w w' b ka kl kc x' mo me ov Q M n
  own : w'.ownsRow w.heap.size 31 4 v m (SessReplysV rs)
theorem nStI57 : ¬ StI 31 := by unfold StI; decide
theorem PrR.bel {w wr : World} {ka : Option Addr} {kl kc : Nat} {x0 x' : SsT} {l : List SessEventT} {m : Nat} {v : Value} {b mo me : Nat} {rs : List SessReplyT} (h : PrR w ka kl kc x0 l m v wr b mo me x' rs) : Below w.heap.size w wr := by
  obtain ⟨_, _, _, _, _, p⟩ := h.ps
  exact p.bel
theorem prun_more {w wr w2 w3 w4 : World} {ka : Option Addr} {kl kc : Nat} {x0 x' x2 : SsT} {l : List SessEventT} {m : Nat} {v u : Value} {b mo me : Nat} {rs : List SessReplyT} {r : SessReplyT} {e : SessEventT} (h : PrR w ka kl kc x0 l m v wr b mo me x' rs) (hm : m < l.length) (he : l[m] = e) (hm2 : m < 300) (hb : Below wr.heap.size wr w2)
    (hs : StepS x' e.f0 e.f1 e.f2 e.f3 e.f4 x2 r) (hq : PsEnd w w2 b ka kl kc x2 mo me w3) (o : Obj) (hown : w4.ownsRow w.heap.size 31 4 u (m + 1) (SessReplysV rs ++ encSessReply r)) (hg : (w3.alloc o).grownBy w4 v.ownBlock) (h2 : e.f2.size ≤ maxLen) (h3 : e.f3.size ≤ maxLen) :
    PrR w ka kl kc x0 l (m + 1) u w4 b mo me x2 (rs ++ [r]) := by
  obtain ⟨⟨ov', Q', M', n', hn', sp⟩, tc⟩ := hq
  obtain ⟨ok2, g2, k2, i2, o2⟩ := h.ok.step hs (by have := h.gv; omega) h2 h3
  have ow2 := own_blk h.own (fun g hg => hb.block g (h.own.lt g hg).2)
  have ow3 := tc.own ow2 nStI57
  have spa := sp.keep (bAl (Below.refl _ _) o)
  have ow3a := ow3.alloc o
  have bel : Below w.heap.size w w4 := ⟨hg.os.trans spa.bel.os, hg.tape.trans spa.bel.tape, hg.output.trans spa.bel.output, Nat.le_trans spa.bel.size hg.size, fun g hgl => by
    rw [hg.block g (by have := spa.bel.size; omega) (fun e => by have := (ow3a.lt g e.symm).1; omega)]
    exact spa.bel.block g hgl⟩
  refine ⟨?_, by simp [h.len], ok2, by have := h.gv; omega, ⟨by rw [k2]; exact h.ky.1, by rw [i2]; exact h.ky.2.1, by rw [o2]; exact h.ky.2.2⟩, ⟨ov', Q', M', n', hn', spa.other (fun g o' hC hS => ?_) bel⟩, by rw [SessReplysV_snoc]; exact hown⟩
  · rw [List.take_succ_eq_append_getElem hm, he]
    exact RunS.snoc h.run hs
  · refine hg.block g (Array.getElem?_eq_some_iff.1 hC).1 (fun e => ?_)
    obtain ⟨C', hC'⟩ := own_is ow3a e.symm
    rw [hC'] at hC
    cases hC
    exact nStI57 hS
set_option maxHeartbeats 4000000 in
theorem sb_no (ka : Option Addr) (kl kc : Nat) (idle most : Int) (a : Option Addr) (len cap : Nat) (w : World) (hl : len ≤ maxLen) (g : ¬ (GC kl idle most ∧ len ≤ 200)) :
    Calls Tryd.prog 26 #[.agg #[.slice ka kl kc, .int .i64 idle, .int .i64 most], .slice a len cap] w fun e w' => e = .returned (.tuple #[.pointer none, .slice none 0 0, .bool false]) ∧ Below w.heap.size w w' := by
  unfold maxLen at hl
  obtain ⟨W1, hW1⟩ : ∃ W, W = w.alloc (.cells #[.slice ka kl kc, .int .i64 idle, .int .i64 most] 24) := ⟨_, rfl⟩
  have b1 : Below w.heap.size w W1 := by rw [hW1]; exact bAl (Below.refl _ _) _
  have R1 := hide (show RowIs W1 w.heap.size #[.slice ka kl kc, .int .i64 idle, .int .i64 most] 24 by rw [hW1]; exact RowIs.new _ _ _)
  have HW := hide hW1.symm
  have B1 := hide b1
  have GN := hide g
  clear hW1 b1 g
  have x0 := (unhide R1).at (o := 0) (v := .slice ka kl kc) rfl
  have x1 := (unhide R1).at (o := 1) (v := .int .i64 idle) rfl
  have x2 := (unhide R1).at (o := 2) (v := .int .i64 most) rfl
  have xz := (unhide R1).lt
  by_cases g : GC kl idle most
  · have h200 : 200 < len := by
      by_cases q : len ≤ 200
      · exact absurd ⟨g, q⟩ (unhide GN)
      · omega
    have dg := hide (decide_eq_true g)
    clear g
    go_enter Tryd.func26, Tryd.ntmps26
    go_upto_region 1 with fail
    refine wp_world (unhide HW) ?_
    clear HW
    go_wp2_with fail
    refine (iGoodC_any ka kl kc idle most _).mono ?_
    rintro e w2 ⟨rfl, hb2⟩
    rw [unhide dg]
    have B2 := hide (bTr (unhide B1) hb2)
    clear hb2 x0 x1 x2 xz
    go_wp2_with fail
    go_ret3
    exact ⟨rfl, unhide B2⟩
  · have dg := hide (decide_eq_false g)
    clear g
    go_enter Tryd.func26, Tryd.ntmps26
    go_upto_region 1 with fail
    refine wp_world (unhide HW) ?_
    clear HW
    go_wp2_with fail
    refine (iGoodC_any ka kl kc idle most _).mono ?_
    rintro e w2 ⟨rfl, hb2⟩
    rw [unhide dg]
    have B2 := hide (bTr (unhide B1) hb2)
    clear hb2 x0 x1 x2 xz
    go_wp2_with fail
    go_ret3
    exact ⟨rfl, unhide B2⟩
set_option maxHeartbeats 8000000 in
theorem sb_yes (ka : Option Addr) (kl kc : Nat) (key : List UInt8) (idle most : Int) (a : Option Addr) (len cap : Nat) (l : List SessEventT) (w : World) (hk : D.SlB w w.heap.size ka kl key) (g : GC kl idle most) (hl : len ≤ 200) (hs : SlSessEvent w a len l) (hok : ∀ q ∈ l, SessEventT.Ok q) (hM : D.Mults w) (hT : Tab w) :
    Calls Tryd.prog 26 #[.agg #[.slice ka kl kc, .int .i64 idle, .int .i64 most], .slice a len cap] w fun e w' => ∃ b mo me x' rs v, e = .returned (.tuple #[.pointer (some ⟨b, 0, none⟩), v, .bool true]) ∧ Hid (PrR w ka kl kc (xS0 key idle most) l len v w' b mo me x' rs) := by
  obtain ⟨i0, hi0, hz⟩ := Option.map_eq_some_iff.1 info_SessReply
  simp only [Prod.mk.injEq] at hz
  obtain ⟨hz0, hz1, hz2⟩ := hz
  have HI := hide (And.intro hi0 (And.intro hz0 (And.intro hz1 hz2)))
  have HS := hide hs
  have HO := hide hok
  have LL := hide hs.1
  have HM := hide hM
  have HT := hide hT
  have G := hide g
  have dg := hide (decide_eq_true g)
  obtain ⟨W1, hW1⟩ : ∃ W, W = w.alloc (.cells #[.slice ka kl kc, .int .i64 idle, .int .i64 most] 24) := ⟨_, rfl⟩
  have b1 : Below w.heap.size w W1 := by rw [hW1]; exact bAl (Below.refl _ _) _
  have R1 := hide (show RowIs W1 w.heap.size #[.slice ka kl kc, .int .i64 idle, .int .i64 most] 24 by rw [hW1]; exact RowIs.new _ _ _)
  have HW := hide hW1.symm
  have B1 := hide b1
  have KK := hide hk
  have h300 : len < 300 := by omega
  clear hs hok hW1 b1 hk hM hT g hi0 hz0 hz1 hz2
  have x0 := (unhide R1).at (o := 0) (v := .slice ka kl kc) rfl
  have x1 := (unhide R1).at (o := 1) (v := .int .i64 idle) rfl
  have x2 := (unhide R1).at (o := 2) (v := .int .i64 most) rfl
  have xz := (unhide R1).lt
  go_enter Tryd.func26, Tryd.ntmps26
  go_upto_region 1 with fail
  refine wp_world (unhide HW) ?_
  clear HW
  go_wp2_with fail
  refine (iGoodC_any ka kl kc idle most _).mono ?_
  rintro e w2 ⟨rfl, hb2⟩
  rw [unhide dg]
  have B2 := hide (bTr (unhide B1) hb2)
  have R2 := hide ((unhide R1).keep hb2)
  clear hb2 R1 x0 x1 x2 xz B1
  have x0 := (unhide R2).at (o := 0) (v := .slice ka kl kc) rfl
  have x1 := (unhide R2).at (o := 1) (v := .int .i64 idle) rfl
  have x2 := (unhide R2).at (o := 2) (v := .int .i64 most) rfl
  have xz := (unhide R2).lt
  go_wp2_with fail
  refine (sOf_any ka kl kc key idle most w _ (unhide B2)).mono ?_
  rintro e w4 ⟨b, mo, me, rfl, hbz, hP, hb4⟩
  have T0 := hide (show PrR w ka kl kc (xS0 key idle most) l 0 (.slice none 0 0) w4 b mo me (xS0 key idle most) [] from
    ⟨by rw [List.take_zero]; exact RunS.nil _, rfl, ⟨by simp [xS0], by simp [xS0], by simp [xS0], by simp [xS0], (unhide G).2.1, (unhide G).2.2⟩, Nat.zero_le _, ⟨rfl, rfl, rfl⟩, ⟨_, _, _, _, Nat.zero_le _, hP⟩, World.ownsRow_nil _ _ _ _⟩)
  clear hP hb4 R2 x0 x1 x2 xz B2 hbz
  go_wp2_with fail
  go_loopw [8, 10, 23] (fun v _ q w' => ∃ (m : Nat) (x' : SsT) (rs : List SessReplyT), m ≤ len ∧ q = .int .i64 m ∧ Hid (PrR w ka kl kc (xS0 key idle most) l m v w' b mo me x' rs)) (fun _ _ q _ => len - (intOf q).toNat)
  case atStart => exact ⟨0, _, [], Nat.zero_le _, rfl, T0⟩
  case round =>
    obtain ⟨m, x', rs, hm9, rfl, hT⟩ := hrel
    clear T0
    by_cases hlt : m < len
    · obtain ⟨g, off, rfl, hrow⟩ := ((unhide HS).keep (unhide hT).bel).at hlt
      have hk' : m < l.length := by rw [← unhide LL]; exact hlt
      have c0 := hrow.c0 m hk'
      have c1 := hrow.c1 m hk'
      have c2 := hrow.c2 m hk'
      have c3 := hrow.c3 m hk'
      have c4 := hrow.c4 m hk'
      have hzb := hrow.z
      have OKE := hide (unhide HO _ (List.getElem_mem hk'))
      obtain ⟨A, hA⟩ : ∃ A, l[m] = A := ⟨_, rfl⟩
      have HA := hide hA
      rw [hA] at c0 c1 c2 c3 c4 OKE
      clear hrow hA
      obtain ⟨W3, hW3⟩ : ∃ W, W = wr.alloc (.cells #[.int .i64 A.f0, .int .i64 A.f1, .string A.f2, .string A.f3, .string A.f4] 34) := ⟨_, rfl⟩
      have b3 : Below wr.heap.size wr W3 := by rw [hW3]; exact bAl (Below.refl _ _) _
      have R3 := show RowIs W3 wr.heap.size #[.int .i64 A.f0, .int .i64 A.f1, .string A.f2, .string A.f3, .string A.f4] 34 by rw [hW3]; exact RowIs.new _ _ _
      have e0 := R3.at (o := 0) (v := .int .i64 A.f0) rfl
      have e1 := R3.at (o := 1) (v := .int .i64 A.f1) rfl
      have e2 := R3.at (o := 2) (v := .string A.f2) rfl
      have e3 := R3.at (o := 3) (v := .string A.f3) rfl
      have e4 := R3.at (o := 4) (v := .string A.f4) rfl
      have ez := R3.lt
      have HW3 := hide hW3.symm
      have B3 := hide b3
      obtain ⟨ov, Q, M, n, hn, hP⟩ := (unhide hT).ps
      obtain ⟨x2, r, hst, qd0⟩ := ans_any (hP.keep b3) hn (unhide hT).ok (by have := (unhide hT).gv; omega) A.f0 A.f1 A.f2 A.f3 A.f4 (unhide OKE).o2 (unhide OKE).o3 (unhide OKE).o4 (by rw [(unhide hT).ky.1]; exact unhide KK) (unhide G).1 (unhide HM) (unhide HT)
      have qd := hide qd0
      have ST := hide hst
      clear hW3 R3 b3 hP hst qd0 hn
      go_upto_region 8 with fail
      refine wp_world (unhide HW3) ?_
      clear c0 c1 c2 c3 c4 hzb HW3
      go_wp2_with fail
      refine (unhide qd).mono ?_
      rintro e w3 ⟨rfl, hq⟩
      have HQ := hide hq
      have O3 := hide (((unhide HQ).2).own (own_blk (unhide hT).own (fun g hg => (unhide B3).block g ((unhide hT).own.lt g hg).2)) nStI57)
      have z3 : w.heap.size < w3.heap.size := by
        obtain ⟨⟨_, _, _, _, _, q⟩, _⟩ := unhide HQ
        have := q.box.lt
        have := q.lo
        omega
      have CN := hide (fun o => cells_new w3 (encR r) 31 o)
      clear qd hq e0 e1 e2 e3 e4 ez
      have er : encR r = #[.int .i64 r.f0, .string r.f1, .string r.f2, .int .i64 r.f3] := rfl
      rw [er]
      go_wp2_with (at_builtin; refine wpList_append_own _ rfl _ _ 28 rfl (w.heap.size) 31 i0 (.agg #[.int .i64 0, .string ByteArray.empty, .string ByteArray.empty, .int .i64 0]) 4 48 Tryd.underlying28 (unhide HI).1 (unhide HI).2.1 (unhide HI).2.2.1 (unhide HI).2.2.2 rfl (by decide) _ _ _ rfl ((unhide O3).alloc _) ⟨w3.heap.size, 0, none⟩ 1 1 (encSessReply r) rfl rfl (unhide CN _ rfl) (encSessReply_one _) (by unfold maxLen; omega) (by omega) (by simp; omega) ?_; intro v' w4 hown hgrow _)
      have hN := prun_more (unhide hT) hk' (unhide HA) (by omega) (unhide B3) (unhide ST) (unhide HQ) _ hown hgrow (unhide OKE).o2 (unhide OKE).o3
      exact ⟨⟨m + 1, x2, rs ++ [r], by omega, by go_num, hide hN⟩, by simp [intOf]; omega⟩
    · have em : m = len := by omega
      subst em
      go_wp2_with fail
      go_ret3
      exact ⟨b, mo, me, x', rs, _, rfl, hT⟩
set_option maxHeartbeats 4000000 in
theorem iRunSessions_v (ka : Option Addr) (kl kc : Nat) (key : List UInt8) (idle most : Int) (a : Option Addr) (len cap : Nat) (l : List SessEventT) (w : World) (hk : D.SlB w w.heap.size ka kl key) (hl : len ≤ maxLen) (hs : SlSessEvent w a len l) (hok : ∀ q ∈ l, SessEventT.Ok q) (hM : D.Mults w) (hT : Tab w) :
    Calls Tryd.prog 6 #[.agg #[.slice ka kl kc, .int .i64 idle, .int .i64 most], .slice a len cap] w fun e w' => (∃ v r, e = .returned v ∧ RunIs key kl idle most l r ∧ w'.ownsRow w.heap.size 31 4 v r.length (SessReplysV r)) ∧ Below w.heap.size w w' := by
  have LL := hide hs.1
  obtain ⟨W1, hW1⟩ : ∃ W, W = w.alloc (.cells #[.slice ka kl kc, .int .i64 idle, .int .i64 most] 24) := ⟨_, rfl⟩
  have b1 : Below w.heap.size w W1 := by rw [hW1]; exact bAl (Below.refl _ _) _
  have R1 := hide (show RowIs W1 w.heap.size #[.slice ka kl kc, .int .i64 idle, .int .i64 most] 24 by rw [hW1]; exact RowIs.new _ _ _)
  have HW := hide hW1.symm
  have B1 := hide b1
  have x0 := (unhide R1).at (o := 0) (v := .slice ka kl kc) rfl
  have x1 := (unhide R1).at (o := 1) (v := .int .i64 idle) rfl
  have x2 := (unhide R1).at (o := 2) (v := .int .i64 most) rfl
  have xz := (unhide R1).lt
  by_cases g : GC kl idle most ∧ len ≤ 200
  · have q := hide (sb_yes ka kl kc key idle most a len cap l W1 ((hk.keep b1).mono b1.size) g.1 g.2 (hs.keep b1) hok (hM.keepB b1 hM.1) (Tab.keep hT b1))
    have G := hide g
    clear hW1 b1 hs hok hk hM hT g hl
    go_enter Tryd.func6, Tryd.ntmps6
    go_upto_region 1 with fail
    refine wp_world (unhide HW) ?_
    clear HW
    go_wp2_with fail
    refine (unhide q).mono ?_
    rintro e w2 ⟨b, mo, me, x', rs, v, rfl, hT⟩
    clear q x0 x1 x2 xz
    go_wp2_with fail
    go_ret
    have T := unhide hT
    refine ⟨⟨v, rs, rfl, ⟨fun _ _ => ⟨x', by have q := T.run; rw [unhide LL, List.take_length] at q; exact q⟩, fun n => absurd ⟨(unhide G).1, by rw [← unhide LL]; exact (unhide G).2⟩ n⟩, ?_⟩, bTr (unhide B1) T.bel⟩
    rw [T.len]
    exact own_lo T.own (unhide B1).size
  · have q := hide (sb_no ka kl kc idle most a len cap W1 hl g)
    have N := hide (show RunIs key kl idle most l [] from ⟨fun y1 y2 => absurd ⟨y1, by rw [unhide LL]; exact y2⟩ g, fun _ => rfl⟩)
    clear hW1 b1 hs hok hk hM hT g hl
    go_enter Tryd.func6, Tryd.ntmps6
    go_upto_region 1 with fail
    refine wp_world (unhide HW) ?_
    clear HW
    go_wp2_with fail
    refine (unhide q).mono ?_
    rintro e w2 ⟨rfl, hb2⟩
    clear q x0 x1 x2 xz
    have B2 := hide (bTr (unhide B1) hb2)
    clear hb2
    go_wp2_with fail
    go_ret
    exact ⟨⟨_, [], rfl, unhide N, World.ownsRow_nil _ _ _ _⟩, unhide B2⟩
end Go.Proofs.YtppkgcedkdeccaaDoor
