/- LPw, LPx, GMkT, one behind the other. -/
import Derived.Test.YtlbbjkpdionieaaDoorJ31
import Derived.Test.YtlbbjkpdionieaaDoorJ24
import Derived.Laws.AppendOwn
import Derived.OwnWalk
import Derived.Test.YtlbbjkpdionieaaDoorJ17
import Derived.Test.YtlbbjkpdionieaaDoorJ10
import Derived.Lib.SlBytesRow
import Derived.Lib.BufferRead
import Derived.Lib.SmallJoins
/- Sessions: none yet. -/
namespace Go.Proofs.YtlbbjkpdionieaaDoor
set_option linter.unusedSimpArgs false
set_option linter.unusedVariables false
set_option maxRecDepth 20000
open Go.RowKit Go.Maps

theorem sOf_ps (ka : Option Addr) (kl kc : Nat) (key : List UInt8) (idle most : Int) (w0 w : World) (hb : Below w0.heap.size w0 w) (o : Obj) :
    PsAt w0 ((((w.alloc o).alloc (.map #[] 0)).alloc (.map #[] 0)).alloc (.cells (vC ka kl kc (xS0 key idle most) (w.heap.size + 1) (w.heap.size + 1 + 1) (.slice none 0 0)) 82)) (w.heap.size + 1 + 1 + 1) ka kl kc (xS0 key idle most) (w.heap.size + 1) (w.heap.size + 1 + 1) (.slice none 0 0) [] (fun _ => none) 0 := by
  obtain ⟨W1, hW1⟩ : ∃ W, W = w.alloc o := ⟨_, rfl⟩
  rw [← hW1]
  have z1 : W1.heap.size = w.heap.size + 1 := by rw [hW1]; simp
  have z2 : (W1.alloc (.map #[] 0)).heap.size = w.heap.size + 1 + 1 := by simp [z1]
  have z3 : ((W1.alloc (.map #[] 0)).alloc (.map #[] 0)).heap.size = w.heap.size + 1 + 1 + 1 := by simp [z1]
  have b1 : Below w.heap.size w W1 := by rw [hW1]; exact bAl (Below.refl _ _) o
  have k1 := KM.made Tryd.prog 9 Value.string W1
  have k2 := KM.made Tryd.prog 9 Value.string (W1.alloc (.map #[] 0))
  rw [z1] at k1
  rw [z2] at k2
  have bz := hb.size
  have k1b := (k1.keepB (bAl (Below.refl _ _) (.map #[] 0)) k1.lt)
  have im : idMap (xS0 key idle most) [] = fun _ => none := by funext y; rfl
  have cd := fun O => bAl (bAl (bAl b1 (.map #[] 0)) (.map #[] 0)) O
  refine ⟨?_, rfl, fun i hi => absurd hi (Nat.not_lt_zero _), fun i hi => absurd hi (Nat.not_lt_zero _), fun i hi => absurd hi (Nat.not_lt_zero _), fun i hi => absurd hi (Nat.not_lt_zero _), fun i j hi => absurd hi (Nat.not_lt_zero _), fun i j hi => absurd hi (Nat.not_lt_zero _), fun i j hi => absurd hi (Nat.not_lt_zero _), ?_, ?_, (fun u v hv => by cases hv), fun i hi => absurd hi (Nat.not_lt_zero _), (fun u u' v hv => by cases hv), World.ownsRow_nil _ _ _ _, fun i hi => absurd hi (Nat.not_lt_zero _), ⟨by omega, by omega, by omega, by omega, by omega, by omega⟩, bTr hb (cd _), by omega⟩
  · rw [← z3]
    exact RowIs.new _ _ _
  · rw [im]
    exact k1b.keepB (bAl (Below.refl _ _) _) k1b.lt
  · exact k2.keepB (bAl (Below.refl _ _) _) k2.lt
theorem sOf_any (ka : Option Addr) (kl kc : Nat) (key : List UInt8) (idle most : Int) (w0 w : World) (hb : Below w0.heap.size w0 w) :
    Calls Tryd.prog 31 #[.agg #[.slice ka kl kc, .int .i64 idle, .int .i64 most]] w fun e w' => ∃ b mo me, e = .returned (.pointer (some ⟨b, 0, none⟩)) ∧ b = w.heap.size + 3 ∧ PsAt w0 w' b ka kl kc (xS0 key idle most) mo me (.slice none 0 0) [] (fun _ => none) 0 ∧ Below w.heap.size w w' := by
  have hmm := @run_makeMap Tryd.prog
  have HP := hide (fun o => sOf_ps ka kl kc key idle most w0 w hb o)
  go_enter Tryd.func31, Tryd.ntmps31
  go_wp2_with fail
  go_ret
  exact ⟨_, _, _, rfl, rfl, unhide HP _, bAl (bAl (bAl (bAl (Below.refl _ _) _) _) _) _⟩
end Go.Proofs.YtlbbjkpdionieaaDoor
/- Sessions: the program's run. -/
namespace Go.Proofs.YtlbbjkpdionieaaDoor
set_option linter.unusedSimpArgs false
set_option linter.unusedVariables false
set_option maxRecDepth 20000
open Go.RowKit Go.Maps

/-- What lies behind m events, by the program. -/
structure PrR (w : World) (ka : Option Addr) (kl kc : Nat) (x0 : SsT) (l : List SessEventT) (m : Nat) (v : Value) (w' : World) (b mo me : Nat) (x' : SsT) (rs : List SessReplyT) : Prop where
  run : RunS x0 (l.take m) x' rs
  len : rs.length = m
  ok : OkS x'
  gv : x'.given ≤ m
  ky : x'.key = x0.key ∧ x'.idle = x0.idle ∧ x'.most = x0.most
  ps : ∃ ov Q M n, n ≤ x'.given ∧ PsAt w w' b ka kl kc x' mo me ov Q M n
  own : w'.ownsRow w.heap.size 57 4 v m (SessReplysV rs)
theorem nStI57 : ¬ StI 57 := by unfold StI; decide
theorem PrR.bel {w wr : World} {ka : Option Addr} {kl kc : Nat} {x0 x' : SsT} {l : List SessEventT} {m : Nat} {v : Value} {b mo me : Nat} {rs : List SessReplyT} (h : PrR w ka kl kc x0 l m v wr b mo me x' rs) : Below w.heap.size w wr := by
  obtain ⟨_, _, _, _, _, p⟩ := h.ps
  exact p.bel
theorem prun_more {w wr w2 w3 w4 : World} {ka : Option Addr} {kl kc : Nat} {x0 x' x2 : SsT} {l : List SessEventT} {m : Nat} {v u : Value} {b mo me : Nat} {rs : List SessReplyT} {r : SessReplyT} {e : SessEventT} (h : PrR w ka kl kc x0 l m v wr b mo me x' rs) (hm : m < l.length) (he : l[m] = e) (hm2 : m < 300) (hb : Below wr.heap.size wr w2)
    (hs : StepS x' e.f0 e.f1 e.f2 e.f3 e.f4 x2 r) (hq : PsEnd w w2 b ka kl kc x2 mo me w3) (o : Obj) (hown : w4.ownsRow w.heap.size 57 4 u (m + 1) (SessReplysV rs ++ encSessReply r)) (hg : (w3.alloc o).grownBy w4 v.ownBlock) (h2 : e.f2.size ≤ maxLen) (h3 : e.f3.size ≤ maxLen) :
    PrR w ka kl kc x0 l (m + 1) u w4 b mo me x2 (rs ++ [r]) := by
  obtain ⟨⟨ov', Q', M', n', hn', sp⟩, tc⟩ := hq
  obtain ⟨ok2, g2, k2, i2, o2⟩ := h.ok.step hs (by have := h.gv; omega) h2 h3
  have ow2 := own_blk h.own (fun g hg => hb.block g (h.own.lt g hg).2)
  have ow3 := tc.own ow2 nStI57
  have spa := sp.keep (bAl (Below.refl _ _) o)
  have ow3a := ow3.alloc o
  have bel : Below w.heap.size w w4 := ⟨hg.os.trans spa.bel.os, hg.tape.trans spa.bel.tape, hg.output.trans spa.bel.output, Nat.le_trans spa.bel.size hg.size, fun g hgl => by
    rw [hg.block g (by have := spa.bel.size; omega) (fun e => by have := (ow3a.lt g e.symm).1; omega)]
    exact spa.bel.block g hgl⟩
  refine ⟨?_, by simp [h.len], ok2, by have := h.gv; omega, ⟨by rw [k2]; exact h.ky.1, by rw [i2]; exact h.ky.2.1, by rw [o2]; exact h.ky.2.2⟩, ⟨ov', Q', M', n', hn', spa.other (fun g o' hC hS => ?_) bel⟩, by rw [SessReplysV_snoc]; exact hown⟩
  · rw [List.take_succ_eq_append_getElem hm, he]
    exact RunS.snoc h.run hs
  · refine hg.block g (Array.getElem?_eq_some_iff.1 hC).1 (fun e => ?_)
    obtain ⟨C', hC'⟩ := own_is ow3a e.symm
    rw [hC'] at hC
    cases hC
    exact nStI57 hS
set_option maxHeartbeats 4000000 in
theorem sb_no (ka : Option Addr) (kl kc : Nat) (idle most : Int) (a : Option Addr) (len cap : Nat) (w : World) (hl : len ≤ maxLen) (g : ¬ (GC kl idle most ∧ len ≤ 200)) :
    Calls Tryd.prog 23 #[.agg #[.slice ka kl kc, .int .i64 idle, .int .i64 most], .slice a len cap] w fun e w' => e = .returned (.tuple #[.pointer none, .slice none 0 0, .bool false]) ∧ Below w.heap.size w w' := by
  unfold maxLen at hl
  obtain ⟨W1, hW1⟩ : ∃ W, W = w.alloc (.cells #[.slice ka kl kc, .int .i64 idle, .int .i64 most] 30) := ⟨_, rfl⟩
  have b1 : Below w.heap.size w W1 := by rw [hW1]; exact bAl (Below.refl _ _) _
  have R1 := hide (show RowIs W1 w.heap.size #[.slice ka kl kc, .int .i64 idle, .int .i64 most] 30 by rw [hW1]; exact RowIs.new _ _ _)
  have HW := hide hW1.symm
  have B1 := hide b1
  have GN := hide g
  clear hW1 b1 g
  have x0 := (unhide R1).at (o := 0) (v := .slice ka kl kc) rfl
  have x1 := (unhide R1).at (o := 1) (v := .int .i64 idle) rfl
  have x2 := (unhide R1).at (o := 2) (v := .int .i64 most) rfl
  have xz := (unhide R1).lt
  by_cases g : GC kl idle most
  · have h200 : 200 < len := by
      by_cases q : len ≤ 200
      · exact absurd ⟨g, q⟩ (unhide GN)
      · omega
    have dg := hide (decide_eq_true g)
    clear g
    go_enter Tryd.func23, Tryd.ntmps23
    go_upto_region 1 with fail
    refine wp_world (unhide HW) ?_
    clear HW
    go_wp2_with fail
    refine (iGoodC_any ka kl kc idle most _).mono ?_
    rintro e w2 ⟨rfl, hb2⟩
    rw [unhide dg]
    have B2 := hide (bTr (unhide B1) hb2)
    clear hb2 x0 x1 x2 xz
    go_wp2_with fail
    go_ret3
    exact ⟨rfl, unhide B2⟩
  · have dg := hide (decide_eq_false g)
    clear g
    go_enter Tryd.func23, Tryd.ntmps23
    go_upto_region 1 with fail
    refine wp_world (unhide HW) ?_
    clear HW
    go_wp2_with fail
    refine (iGoodC_any ka kl kc idle most _).mono ?_
    rintro e w2 ⟨rfl, hb2⟩
    rw [unhide dg]
    have B2 := hide (bTr (unhide B1) hb2)
    clear hb2 x0 x1 x2 xz
    go_wp2_with fail
    go_ret3
    exact ⟨rfl, unhide B2⟩
set_option maxHeartbeats 8000000 in
theorem sb_yes (ka : Option Addr) (kl kc : Nat) (key : List UInt8) (idle most : Int) (a : Option Addr) (len cap : Nat) (l : List SessEventT) (w : World) (hk : D.SlB w w.heap.size ka kl key) (g : GC kl idle most) (hl : len ≤ 200) (hs : SlSessEvent w a len l) (hok : ∀ q ∈ l, SessEventT.Ok q) (hM : D.Mults w) (hT : Tab w) :
    Calls Tryd.prog 23 #[.agg #[.slice ka kl kc, .int .i64 idle, .int .i64 most], .slice a len cap] w fun e w' => ∃ b mo me x' rs v, e = .returned (.tuple #[.pointer (some ⟨b, 0, none⟩), v, .bool true]) ∧ Hid (PrR w ka kl kc (xS0 key idle most) l len v w' b mo me x' rs) := by
  obtain ⟨i0, hi0, hz⟩ := Option.map_eq_some_iff.1 info_SessReply
  simp only [Prod.mk.injEq] at hz
  obtain ⟨hz0, hz1, hz2⟩ := hz
  have HI := hide (And.intro hi0 (And.intro hz0 (And.intro hz1 hz2)))
  have HS := hide hs
  have HO := hide hok
  have LL := hide hs.1
  have HM := hide hM
  have HT := hide hT
  have G := hide g
  have dg := hide (decide_eq_true g)
  obtain ⟨W1, hW1⟩ : ∃ W, W = w.alloc (.cells #[.slice ka kl kc, .int .i64 idle, .int .i64 most] 30) := ⟨_, rfl⟩
  have b1 : Below w.heap.size w W1 := by rw [hW1]; exact bAl (Below.refl _ _) _
  have R1 := hide (show RowIs W1 w.heap.size #[.slice ka kl kc, .int .i64 idle, .int .i64 most] 30 by rw [hW1]; exact RowIs.new _ _ _)
  have HW := hide hW1.symm
  have B1 := hide b1
  have KK := hide hk
  have h300 : len < 300 := by omega
  clear hs hok hW1 b1 hk hM hT g hi0 hz0 hz1 hz2
  have x0 := (unhide R1).at (o := 0) (v := .slice ka kl kc) rfl
  have x1 := (unhide R1).at (o := 1) (v := .int .i64 idle) rfl
  have x2 := (unhide R1).at (o := 2) (v := .int .i64 most) rfl
  have xz := (unhide R1).lt
  go_enter Tryd.func23, Tryd.ntmps23
  go_upto_region 1 with fail
  refine wp_world (unhide HW) ?_
  clear HW
  go_wp2_with fail
  refine (iGoodC_any ka kl kc idle most _).mono ?_
  rintro e w2 ⟨rfl, hb2⟩
  rw [unhide dg]
  have B2 := hide (bTr (unhide B1) hb2)
  have R2 := hide ((unhide R1).keep hb2)
  clear hb2 R1 x0 x1 x2 xz B1
  have x0 := (unhide R2).at (o := 0) (v := .slice ka kl kc) rfl
  have x1 := (unhide R2).at (o := 1) (v := .int .i64 idle) rfl
  have x2 := (unhide R2).at (o := 2) (v := .int .i64 most) rfl
  have xz := (unhide R2).lt
  go_wp2_with fail
  refine (sOf_any ka kl kc key idle most w _ (unhide B2)).mono ?_
  rintro e w4 ⟨b, mo, me, rfl, hbz, hP, hb4⟩
  have T0 := hide (show PrR w ka kl kc (xS0 key idle most) l 0 (.slice none 0 0) w4 b mo me (xS0 key idle most) [] from
    ⟨by rw [List.take_zero]; exact RunS.nil _, rfl, ⟨by simp [xS0], by simp [xS0], by simp [xS0], by simp [xS0], (unhide G).2.1, (unhide G).2.2⟩, Nat.zero_le _, ⟨rfl, rfl, rfl⟩, ⟨_, _, _, _, Nat.zero_le _, hP⟩, World.ownsRow_nil _ _ _ _⟩)
  clear hP hb4 R2 x0 x1 x2 xz B2 hbz
  go_wp2_with fail
  go_loopw [8, 10, 23] (fun v _ q w' => ∃ (m : Nat) (x' : SsT) (rs : List SessReplyT), m ≤ len ∧ q = .int .i64 m ∧ Hid (PrR w ka kl kc (xS0 key idle most) l m v w' b mo me x' rs)) (fun _ _ q _ => len - (intOf q).toNat)
  case atStart => exact ⟨0, _, [], Nat.zero_le _, rfl, T0⟩
  case round =>
    obtain ⟨m, x', rs, hm9, rfl, hT⟩ := hrel
    clear T0
    by_cases hlt : m < len
    · obtain ⟨g, off, rfl, hrow⟩ := ((unhide HS).keep (unhide hT).bel).at hlt
      have hk' : m < l.length := by rw [← unhide LL]; exact hlt
      have c0 := hrow.c0 m hk'
      have c1 := hrow.c1 m hk'
      have c2 := hrow.c2 m hk'
      have c3 := hrow.c3 m hk'
      have c4 := hrow.c4 m hk'
      have hzb := hrow.z
      have OKE := hide (unhide HO _ (List.getElem_mem hk'))
      obtain ⟨A, hA⟩ : ∃ A, l[m] = A := ⟨_, rfl⟩
      have HA := hide hA
      rw [hA] at c0 c1 c2 c3 c4 OKE
      clear hrow hA
      obtain ⟨W3, hW3⟩ : ∃ W, W = wr.alloc (.cells #[.int .i64 A.f0, .int .i64 A.f1, .string A.f2, .string A.f3, .string A.f4] 50) := ⟨_, rfl⟩
      have b3 : Below wr.heap.size wr W3 := by rw [hW3]; exact bAl (Below.refl _ _) _
      have R3 := show RowIs W3 wr.heap.size #[.int .i64 A.f0, .int .i64 A.f1, .string A.f2, .string A.f3, .string A.f4] 50 by rw [hW3]; exact RowIs.new _ _ _
      have e0 := R3.at (o := 0) (v := .int .i64 A.f0) rfl
      have e1 := R3.at (o := 1) (v := .int .i64 A.f1) rfl
      have e2 := R3.at (o := 2) (v := .string A.f2) rfl
      have e3 := R3.at (o := 3) (v := .string A.f3) rfl
      have e4 := R3.at (o := 4) (v := .string A.f4) rfl
      have ez := R3.lt
      have HW3 := hide hW3.symm
      have B3 := hide b3
      obtain ⟨ov, Q, M, n, hn, hP⟩ := (unhide hT).ps
      obtain ⟨x2, r, hst, qd0⟩ := ans_any (hP.keep b3) hn (unhide hT).ok (by have := (unhide hT).gv; omega) A.f0 A.f1 A.f2 A.f3 A.f4 (unhide OKE).o2 (unhide OKE).o3 (unhide OKE).o4 (by rw [(unhide hT).ky.1]; exact unhide KK) (unhide G).1 (unhide HM) (unhide HT)
      have qd := hide qd0
      have ST := hide hst
      clear hW3 R3 b3 hP hst qd0 hn
      go_upto_region 8 with fail
      refine wp_world (unhide HW3) ?_
      clear c0 c1 c2 c3 c4 hzb HW3
      go_wp2_with fail
      refine (unhide qd).mono ?_
      rintro e w3 ⟨rfl, hq⟩
      have HQ := hide hq
      have O3 := hide (((unhide HQ).2).own (own_blk (unhide hT).own (fun g hg => (unhide B3).block g ((unhide hT).own.lt g hg).2)) nStI57)
      have z3 : w.heap.size < w3.heap.size := by
        obtain ⟨⟨_, _, _, _, _, q⟩, _⟩ := unhide HQ
        have := q.box.lt
        have := q.lo
        omega
      have CN := hide (fun o => cells_new w3 (encR r) 57 o)
      clear qd hq e0 e1 e2 e3 e4 ez
      have er : encR r = #[.int .i64 r.f0, .string r.f1, .string r.f2, .int .i64 r.f3] := rfl
      rw [er]
      go_wp2_with (at_builtin; refine wpList_append_own _ rfl _ _ 28 rfl (w.heap.size) 57 i0 (.agg #[.int .i64 0, .string ByteArray.empty, .string ByteArray.empty, .int .i64 0]) 4 48 Tryd.underlying28 (unhide HI).1 (unhide HI).2.1 (unhide HI).2.2.1 (unhide HI).2.2.2 rfl (by decide) _ _ _ rfl ((unhide O3).alloc _) ⟨w3.heap.size, 0, none⟩ 1 1 (encSessReply r) rfl rfl (unhide CN _ rfl) (encSessReply_one _) (by unfold maxLen; omega) (by omega) (by simp; omega) ?_; intro v' w4 hown hgrow _)
      have hN := prun_more (unhide hT) hk' (unhide HA) (by omega) (unhide B3) (unhide ST) (unhide HQ) _ hown hgrow (unhide OKE).o2 (unhide OKE).o3
      exact ⟨⟨m + 1, x2, rs ++ [r], by omega, by go_num, hide hN⟩, by simp [intOf]; omega⟩
    · have em : m = len := by omega
      subst em
      go_wp2_with fail
      go_ret3
      exact ⟨b, mo, me, x', rs, _, rfl, hT⟩
set_option maxHeartbeats 4000000 in
theorem iRunSessions_v (ka : Option Addr) (kl kc : Nat) (key : List UInt8) (idle most : Int) (a : Option Addr) (len cap : Nat) (l : List SessEventT) (w : World) (hk : D.SlB w w.heap.size ka kl key) (hl : len ≤ maxLen) (hs : SlSessEvent w a len l) (hok : ∀ q ∈ l, SessEventT.Ok q) (hM : D.Mults w) (hT : Tab w) :
    Calls Tryd.prog 9 #[.agg #[.slice ka kl kc, .int .i64 idle, .int .i64 most], .slice a len cap] w fun e w' => (∃ v r, e = .returned v ∧ RunIs key kl idle most l r ∧ w'.ownsRow w.heap.size 57 4 v r.length (SessReplysV r)) ∧ Below w.heap.size w w' := by
  have LL := hide hs.1
  obtain ⟨W1, hW1⟩ : ∃ W, W = w.alloc (.cells #[.slice ka kl kc, .int .i64 idle, .int .i64 most] 30) := ⟨_, rfl⟩
  have b1 : Below w.heap.size w W1 := by rw [hW1]; exact bAl (Below.refl _ _) _
  have R1 := hide (show RowIs W1 w.heap.size #[.slice ka kl kc, .int .i64 idle, .int .i64 most] 30 by rw [hW1]; exact RowIs.new _ _ _)
  have HW := hide hW1.symm
  have B1 := hide b1
  have x0 := (unhide R1).at (o := 0) (v := .slice ka kl kc) rfl
  have x1 := (unhide R1).at (o := 1) (v := .int .i64 idle) rfl
  have x2 := (unhide R1).at (o := 2) (v := .int .i64 most) rfl
  have xz := (unhide R1).lt
  by_cases g : GC kl idle most ∧ len ≤ 200
  · have q := hide (sb_yes ka kl kc key idle most a len cap l W1 ((hk.keep b1).mono b1.size) g.1 g.2 (hs.keep b1) hok (hM.keepB b1 hM.1) (Tab.keep hT b1))
    have G := hide g
    clear hW1 b1 hs hok hk hM hT g hl
    go_enter Tryd.func9, Tryd.ntmps9
    go_upto_region 1 with fail
    refine wp_world (unhide HW) ?_
    clear HW
    go_wp2_with fail
    refine (unhide q).mono ?_
    rintro e w2 ⟨b, mo, me, x', rs, v, rfl, hT⟩
    clear q x0 x1 x2 xz
    go_wp2_with fail
    go_ret
    have T := unhide hT
    refine ⟨⟨v, rs, rfl, ⟨fun _ _ => ⟨x', by have q := T.run; rw [unhide LL, List.take_length] at q; exact q⟩, fun n => absurd ⟨(unhide G).1, by rw [← unhide LL]; exact (unhide G).2⟩ n⟩, ?_⟩, bTr (unhide B1) T.bel⟩
    rw [T.len]
    exact own_lo T.own (unhide B1).size
  · have q := hide (sb_no ka kl kc idle most a len cap W1 hl g)
    have N := hide (show RunIs key kl idle most l [] from ⟨fun y1 y2 => absurd ⟨y1, by rw [unhide LL]; exact y2⟩ g, fun _ => rfl⟩)
    clear hW1 b1 hs hok hk hM hT g hl
    go_enter Tryd.func9, Tryd.ntmps9
    go_upto_region 1 with fail
    refine wp_world (unhide HW) ?_
    clear HW
    go_wp2_with fail
    refine (unhide q).mono ?_
    rintro e w2 ⟨rfl, hb2⟩
    clear q x0 x1 x2 xz
    have B2 := hide (bTr (unhide B1) hb2)
    clear hb2
    go_wp2_with fail
    go_ret
    exact ⟨⟨_, [], rfl, unhide N, World.ownsRow_nil _ _ _ _⟩, unhide B2⟩
end Go.Proofs.YtlbbjkpdionieaaDoor
/- laws.markText. -/
namespace Go.Proofs.YtlbbjkpdionieaaDoor
open Go.RowKit

/-- The digits of n, ahead of O. -/
def mtx (n : Nat) (O : ByteArray) : ByteArray := if _h : n = 0 then O else mtx (n / 10) ((⟨#[UInt8.ofNat (48 + n % 10)]⟩ : ByteArray) ++ O)
termination_by n
decreasing_by omega
theorem mtx_zero (O : ByteArray) : mtx 0 O = O := by rw [mtx]; simp
theorem mtx_step {n : Nat} (h : ¬ n = 0) (O : ByteArray) : mtx n O = mtx (n / 10) ((⟨#[UInt8.ofNat (48 + n % 10)]⟩ : ByteArray) ++ O) := by
  conv => lhs; rw [mtx]
  rw [dif_neg h]
def mt (n : Nat) : ByteArray := (⟨#[109]⟩ : ByteArray) ++ mtx n ⟨#[]⟩

set_option maxRecDepth 100000 in
set_option maxHeartbeats 1000000 in
theorem markText_any (K : Nat) (w : World) (h1 : 1 ≤ K) (h2 : K ≤ 400000000) :
    Calls Tryd.prog 28 #[.int .i64 K] w fun e w' => e = .returned (.string (mt K)) ∧ Below w.heap.size w w' := by
  have hk0 : ¬ (K : Int) ≤ 0 := by omega
  obtain ⟨M, hM⟩ : ∃ M, mtx K ⟨#[]⟩ = M := ⟨_, rfl⟩
  have HM := hide hM
  have hmt : mt K = (⟨#[109]⟩ : ByteArray) ++ M := by unfold mt; rw [hM]
  rw [hmt]
  clear hmt hM
  go_enter Tryd.func28, Tryd.ntmps28
  go_wp2_with fail
  go_loopw [0, 3] (fun q v w' => ∃ (n : Nat) (O : ByteArray), q = .int .i64 n ∧ v = .string O ∧ O.size + n ≤ 400000000 ∧ Hid (mtx n O = M) ∧ Hid (Below w.heap.size w w')) (fun q _ _ => (intOf q).toNat)
  case atStart => exact ⟨K, ⟨#[]⟩, rfl, rfl, by show 0 + K ≤ _; omega, HM, hide (Below.refl _ _)⟩
  case round =>
    obtain ⟨n, O, rfl, rfl, hz, hm, hb⟩ := hrel
    by_cases hn : n = 0
    · subst hn
      have eM := hide (show O = M by rw [← unhide hm, mtx_zero])
      have q1 : ¬ 9223372036854775806 < O.size := by omega
      have q2 : O.size ≤ 9223372036854775806 := by omega
      have q3 : ¬ 9223372036854775807 < 1 + O.size := by omega
      have q4 : 1 + O.size ≤ 9223372036854775807 := by omega
      go_wp2_with fail
      go_ret
      exact ⟨by rw [unhide eM]; rfl, unhide hb⟩
    · obtain ⟨c, hc⟩ : ∃ c, UInt8.ofNat (48 + n % 10) = c := ⟨_, rfl⟩
      have st := hide (show mtx (n / 10) ((⟨#[c]⟩ : ByteArray) ++ O) = M by rw [← unhide hm, mtx_step hn, hc])
      have hcc : (48 : Int) + (n : Int) % 10 = (c.toNat : Int) := by
        rw [← hc, UInt8.toNat_ofNat']
        omega
      have cv : (convert 22 9 (.slice (some ⟨wr.heap.size, 0, none⟩) 1 1)).run Tryd.prog (wr.alloc (.cells #[.int .u8 (c.toNat : Int)] 5)) = .ok (.string ⟨#[c]⟩) (wr.alloc (.cells #[.int .u8 (c.toNat : Int)] 5)) := conv_own (own_new wr c)
      have hp : (0 : Int) < (n : Int) := by omega
      have q1 : ¬ 9223372036854775806 < O.size := by omega
      have q2 : O.size ≤ 9223372036854775806 := by omega
      have q3 : ¬ 9223372036854775807 < 1 + O.size := by omega
      have q4 : 1 + O.size ≤ 9223372036854775807 := by omega
      have hlt : n / 10 < n := by omega
      have c256 := c.toNat_lt
      clear hc
      go_wp2_with fail
      refine ⟨⟨n / 10, (⟨#[c]⟩ : ByteArray) ++ O, ?_, rfl, ?_, st, hide (bAl (unhide hb) _)⟩, by simp [intOf]; omega⟩
      · rw [show (n : Int) / 10 = ((n / 10 : Nat) : Int) by omega]
      · rw [ByteArray.size_append]
        show 1 + O.size + n / 10 ≤ _
        omega

theorem gB {w w' : World} (row : Option Nat) (h : Below w.heap.size w w') : w.grownBy w' row := ⟨h.os, h.tape, h.output, h.size, fun k hk _ => h.block k hk⟩
theorem gSet (w : World) (g o : Nat) (v : Value) : w.grownBy (w.setCell ⟨g, o, none⟩ v) (some g) :=
  ⟨rfl, rfl, rfl, by simp [World.setCell], fun k _ hne => heap_setCell_other w ⟨g, o, none⟩ k v (by simpa using hne)⟩
theorem gBel {B : Nat} {w w' : World} {row : Option Nat} (h : w.grownBy w' row) (hB : B ≤ w.heap.size) (hr : ∀ k, row = some k → B ≤ k) : Below B w w' := (Below.refl B w).grown h hB hr
end Go.Proofs.YtlbbjkpdionieaaDoor
