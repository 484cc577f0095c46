/- LQb, GMkT, LMe, one behind the other. -/
import Derived.Test.YtppkgcedkdeccaaDoorJ24
import Derived.Test.YtppkgcedkdeccaaDoorJ32
import Derived.Test.YtppkgcedkdeccaaDoorJ17
import Derived.Test.YtppkgcedkdeccaaDoorJ10
import Derived.Laws.AppendOwn
import Derived.Lib.SlBytesRow
import Derived.Lib.BufferRead
import Derived.Lib.SmallJoins
import Derived.OwnWalk
import Derived.Test.YtppkgcedkdeccaaDoorJ18
/- Sessions: who is signed in, by the program. -/
namespace Go.Proofs.YtppkgcedkdeccaaDoor
set_option linter.unusedSimpArgs false
set_option linter.unusedVariables false
set_option maxRecDepth 20000
open Go.RowKit Go.Maps

set_option maxHeartbeats 8000000 in
theorem iSignedIn_v (ka : Option Addr) (kl kc : Nat) (key : List UInt8) (idle most : Int) (a : Option Addr) (len cap : Nat) (l : List SessEventT) (t : Int) (w : World) (hk : D.SlB w w.heap.size ka kl key) (hl : len ≤ maxLen) (hs : SlSessEvent w a len l) (hok : ∀ q ∈ l, SessEventT.Ok q) (hM : D.Mults w) (hT : Tab w) :
    Calls Tryd.prog 8 #[.agg #[.slice ka kl kc, .int .i64 idle, .int .i64 most], .slice a len cap, .int .i64 t] w fun e w' => (∃ v r, e = .returned v ∧ SigIn key kl idle most l t r ∧ w'.ownsRow w.heap.size 31 4 v r.length (SessReplysV r)) ∧ Below w.heap.size w w' := by
  have LL := hide hs.1
  obtain ⟨i0, hi0, hz⟩ := Option.map_eq_some_iff.1 info_SessReply
  simp only [Prod.mk.injEq] at hz
  obtain ⟨hz0, hz1, hz2⟩ := hz
  have HI := hide (And.intro hi0 (And.intro hz0 (And.intro hz1 hz2)))
  obtain ⟨W1, hW1⟩ : ∃ W, W = w.alloc (.cells #[.slice ka kl kc, .int .i64 idle, .int .i64 most] 24) := ⟨_, rfl⟩
  have b1 : Below w.heap.size w W1 := by rw [hW1]; exact bAl (Below.refl _ _) _
  have R1 := hide (show RowIs W1 w.heap.size #[.slice ka kl kc, .int .i64 idle, .int .i64 most] 24 by rw [hW1]; exact RowIs.new _ _ _)
  have HW := hide hW1.symm
  have B1 := hide b1
  have x0 := (unhide R1).at (o := 0) (v := .slice ka kl kc) rfl
  have x1 := (unhide R1).at (o := 1) (v := .int .i64 idle) rfl
  have x2 := (unhide R1).at (o := 2) (v := .int .i64 most) rfl
  have xz := (unhide R1).lt
  by_cases g : GC kl idle most ∧ len ≤ 200
  rotate_left
  · have q := hide (sb_no ka kl kc idle most a len cap W1 hl g)
    have N := hide (show SigIn key kl idle most l t [] from ⟨fun y1 y2 => absurd ⟨y1, by rw [unhide LL]; exact y2⟩ g, fun _ => rfl⟩)
    clear hW1 b1 hs hok hk hM hT g hl hi0 hz0 hz1 hz2
    go_enter Tryd.func8, Tryd.ntmps8
    go_upto_region 1 with fail
    refine wp_world (unhide HW) ?_
    clear HW
    go_wp2_with fail
    refine (unhide q).mono ?_
    rintro e w2 ⟨rfl, hb2⟩
    clear q x0 x1 x2 xz
    have B2 := hide (bTr (unhide B1) hb2)
    clear hb2
    go_wp2_with fail
    go_ret
    exact ⟨⟨_, [], rfl, unhide N, World.ownsRow_nil _ _ _ _⟩, unhide B2⟩
  have q := hide (sb_yes ka kl kc key idle most a len cap l W1 ((hk.keep b1).mono b1.size) g.1 g.2 (hs.keep b1) hok (hM.keepB b1 hM.1) (Tab.keep hT b1))
  have G := hide g
  clear hW1 b1 hs hok hk hM hT g hl hi0 hz0 hz1 hz2
  go_enter Tryd.func8, Tryd.ntmps8
  go_upto_region 1 with fail
  refine wp_world (unhide HW) ?_
  clear HW
  go_wp2_with fail
  refine (unhide q).mono ?_
  rintro e w3 ⟨b, mo, me, x', rs, v, rfl, hT⟩
  clear q x0 x1 x2 xz
  have B3 := hide (bTr (unhide B1) (unhide hT).bel)
  have RU := hide (show ∃ rs, RunS (xS0 key idle most) l x' rs ∧ x'.list.length ≤ 1000 from ⟨rs, by have q := (unhide hT).run; rwa [unhide LL, List.take_length] at q, Nat.le_trans (unhide hT).ok.ln (unhide hT).ok.gv⟩)
  have SI := hide (fun (r : List SessReplyT) (hr : r = if t < x'.now then [] else sigR x' t x'.list) => show SigIn key kl idle most l t r from ⟨fun _ _ => by obtain ⟨rs, q1, q2⟩ := unhide RU; exact ⟨x', rs, q1, q2, hr⟩, fun n => absurd ⟨(unhide G).1, by rw [← unhide LL]; exact (unhide G).2⟩ n⟩)
  have OK := hide (unhide hT).ok
  obtain ⟨ov, Q, M, n, hn, sp⟩ := (unhide hT).ps
  have SP := hide sp
  clear hT sp hn
  have fm : ∃ va vc, ov = .slice va Q.length vc ∧ (0 < Q.length → ∃ g, va = some ⟨g, 0, none⟩ ∧ g < w3.heap.size) := by
    rcases (unhide SP).own.2 with ⟨e, e0⟩ | ⟨g, c, _, e, _, hh, _⟩
    · exact ⟨none, 0, by rw [e, e0], fun h => by omega⟩
    · exact ⟨_, c, e, fun _ => ⟨g, rfl, (Array.getElem?_eq_some_iff.1 hh).1⟩⟩
  obtain ⟨va, vc, rfl, hva⟩ := fm
  have HV := hide hva
  clear hva
  have c3 := (unhide SP).box.at (o := 3) (v := .int .i64 x'.now) rfl
  have c7 := (unhide SP).box.at (o := 7) (v := .slice va Q.length vc) rfl
  have cz := (unhide SP).box.lt
  by_cases hn : t < x'.now
  · have q := hide (unhide SI [] (by rw [if_pos hn]))
    go_wp2_with fail
    go_ret
    exact ⟨⟨_, [], rfl, unhide q, World.ownsRow_nil _ _ _ _⟩, unhide B3⟩
  have QI := hide (unhide SI _ (by rw [if_neg hn]))
  have LX := hide (unhide SP).len
  have p1000 : Q.length ≤ 1000 := by have h1 := (unhide OK).ln; have h2 := (unhide OK).gv; rw [unhide LX]; omega
  have T0 := hide (show SgR w3 w3 x' t 0 (.slice none 0 0) from ⟨Below.refl _ _, by rw [List.take_zero]; exact World.ownsRow_nil _ _ _ _⟩)
  clear SI
  go_wp2_with fail
  clear c3 c7 cz
  go_loopw [10, 12, 35] (fun v _ q w' => ∃ m : Nat, m ≤ Q.length ∧ q = .int .i64 m ∧ Hid (SgR w3 w' x' t m v)) (fun _ _ q _ => Q.length - (intOf q).toNat)
  case atStart => exact ⟨0, Nat.zero_le _, rfl, T0⟩
  case round =>
    obtain ⟨m, hm9, rfl, hT⟩ := hrel
    clear T0
    by_cases hlt : m < Q.length
    · obtain ⟨g, rfl, hg1⟩ := unhide HV (by omega)
      have sp := (unhide SP).keep (show Below w3.heap.size w3 wr from (unhide hT).bel)
      have hmx : m < x'.list.length := by rw [← unhide LX]; exact hlt
      have okx := (unhide OK).all _ (List.getElem_mem hmx)
      have c0 : wr.cell? ⟨g, m, none⟩ = some (.pointer (some ⟨Q[m].sb, 0, none⟩)) := by
        rw [sp.own.cellAt _ (by omega)]
        unfold ptrV
        rw [List.getElem?_map, List.getElem?_eq_getElem hlt]
        rfl
      have hzb : g < wr.heap.size := Nat.lt_of_lt_of_le hg1 (unhide hT).bel.size
      have rj := sp.ses m hlt hmx
      have h1 := okx.lg
      have h2 := okx.la
      have h3 : 0 ≤ x'.idle ∧ x'.idle ≤ 1000000 := by have := (unhide OK).id; omega
      have h4 : 0 ≤ x'.most ∧ x'.most ≤ 1000000 := by have := (unhide OK).mo; omega
      have qd := hide (isDead_any Q[m].sb Q[m].en Q[m].ev Q[m].ce Q[m].cd wr (rj.at (o := 6) rfl) (rj.at (o := 7) rfl) (sp.che m hlt) (sp.chv m hlt))
      rw [← sp.dd m hlt hmx] at qd
      have SPR := hide sp
      have qo := hide (fun (w' : World) (hb : Below wr.heap.size wr w') => iOver_any b mo me ka kl kc x' x'.list[m] Q[m] (.slice (some ⟨g, 0, none⟩) Q.length vc) t w' ((unhide SPR).keep hb).box (((unhide SPR).keep hb).ses m hlt hmx) h1 h2 h3 h4)
      have qt := hide (fun (w' : World) (hb : Below wr.heap.size wr w') => iTold_any x'.list[m] Q[m] w' (((unhide SPR).keep hb).ses m hlt hmx))
      have liv := hide (show liveR x' t x'.list[m] = (!x'.list[m].dead && !overS x' x'.list[m] t) from rfl)
      clear okx rj sp SPR h1 h2 h3 h4
      obtain ⟨s, hs⟩ : ∃ s, x'.list[m] = s := ⟨_, rfl⟩
      obtain ⟨q, hq⟩ : ∃ q, Q[m] = q := ⟨_, rfl⟩
      rw [hq] at c0 qd qo qt
      rw [hs] at qd qo qt liv
      have HSS := hide hs
      clear hs hq
      go_wp2_with fail
      refine (unhide qd).mono ?_
      rintro e w4 ⟨rfl, hb4⟩
      have B4 := hide hb4
      have qo4 := hide (unhide qo w4 hb4)
      clear hb4 qd c0 hzb qo
      cases hd : s.dead with
      | true =>
        rw [hd] at liv
        have hN := hide ((unhide hT).skip hmx (by rw [unhide HSS, unhide liv]; rfl) (unhide B4))
        clear hd liv qo4 qt
        go_wp2_with fail
        exact ⟨⟨m + 1, by omega, by go_num, hN⟩, by simp [intOf]; omega⟩
      | false =>
        rw [hd] at liv
        clear hd
        go_wp2_with fail
        refine (unhide qo4).mono ?_
        rintro e w5 ⟨rfl, hb5⟩
        have B5 := hide (bTr (unhide B4) hb5)
        clear hb5 qo4 B4
        cases ho : overS x' s t with
        | true =>
          rw [ho] at liv
          have hN := hide ((unhide hT).skip hmx (by rw [unhide HSS, unhide liv]; rfl) (unhide B5))
          clear ho liv qt
          go_wp2_with fail
          exact ⟨⟨m + 1, by omega, by go_num, hN⟩, by simp [intOf]; omega⟩
        | false =>
          rw [ho] at liv
          have LV := hide (show liveR x' t x'.list[m] = true by rw [unhide HSS, unhide liv]; rfl)
          have qt5 := hide (unhide qt w5 (unhide B5))
          clear ho liv qt
          go_wp2_with fail
          refine (unhide qt5).mono ?_
          rintro e w6 ⟨rfl, hb6⟩
          have B6 := hide (bTr (unhide B5) hb6)
          have O6 := hide (own_blk (unhide hT).own (fun g hg => (unhide B6).block g ((unhide hT).own.lt g hg).2))
          have z6 : w3.heap.size ≤ w6.heap.size := by have h1 := (unhide hT).bel.size; have h2 := (unhide B6).size; omega
          have CN := hide (fun o => cells_new w6 (encR (toldR s)) 31 o)
          have z7 : (sigR x' t (x'.list.take m)).length ≤ 1000 := Nat.le_trans (sigR_len _ _ _) (by rw [List.length_take]; omega)
          clear hb6 qt5 B5
          obtain ⟨r, hr⟩ : ∃ r, toldR s = r := ⟨_, rfl⟩
          rw [hr] at CN
          rw [hr]
          have HR := hide (show toldR x'.list[m] = r by rw [unhide HSS]; exact hr)
          have er : encR r = #[.int .i64 r.f0, .string r.f1, .string r.f2, .int .i64 r.f3] := rfl
          rw [er]
          clear hr
          obtain ⟨n', hn'⟩ : ∃ n, (sigR x' t (x'.list.take m)).length = n := ⟨_, rfl⟩
          rw [hn'] at O6 z7
          have HNN := hide hn'
          clear hn'
          go_wp2_with (at_builtin; refine wpList_append_own _ rfl _ _ 28 rfl (w3.heap.size) 31 i0 (.agg #[.int .i64 0, .string ByteArray.empty, .string ByteArray.empty, .int .i64 0]) 4 48 Tryd.underlying28 (unhide HI).1 (unhide HI).2.1 (unhide HI).2.2.1 (unhide HI).2.2.2 rfl (by decide) _ _ _ rfl ((unhide O6).alloc _) ⟨w6.heap.size, 0, none⟩ 1 1 (encSessReply r) rfl rfl (unhide CN _ rfl) (encSessReply_one _) (by unfold maxLen; omega) (by omega) (by simp; omega) ?_; intro v' w7 hown hgrow _)
          have hN := (unhide hT).more hmx (unhide LV) (unhide B6) _ (by rw [unhide HNN, unhide HR]; exact hown) hgrow
          exact ⟨⟨m + 1, by omega, by go_num, hide hN⟩, by simp [intOf]; omega⟩
    · have em : m = Q.length := by omega
      subst em
      go_wp2_with fail
      go_ret
      have T := unhide hT
      have ow := T.own
      rw [unhide LX, List.take_length] at ow
      exact ⟨⟨_, _, rfl, unhide QI, own_lo ow (unhide B3).size⟩, bTr (unhide B3) T.bel⟩
end Go.Proofs.YtppkgcedkdeccaaDoor
/- laws.markText. -/
namespace Go.Proofs.YtppkgcedkdeccaaDoor
open Go.RowKit

/-- The digits of n, ahead of O. -/
def mtx (n : Nat) (O : ByteArray) : ByteArray := if _h : n = 0 then O else mtx (n / 10) ((⟨#[UInt8.ofNat (48 + n % 10)]⟩ : ByteArray) ++ O)
termination_by n
decreasing_by omega
theorem mtx_zero (O : ByteArray) : mtx 0 O = O := by rw [mtx]; simp
theorem mtx_step {n : Nat} (h : ¬ n = 0) (O : ByteArray) : mtx n O = mtx (n / 10) ((⟨#[UInt8.ofNat (48 + n % 10)]⟩ : ByteArray) ++ O) := by
  conv => lhs; rw [mtx]
  rw [dif_neg h]
def mt (n : Nat) : ByteArray := (⟨#[109]⟩ : ByteArray) ++ mtx n ⟨#[]⟩

set_option maxRecDepth 100000 in
set_option maxHeartbeats 1000000 in
theorem markText_any (K : Nat) (w : World) (h1 : 1 ≤ K) (h2 : K ≤ 400000000) :
    Calls Tryd.prog 42 #[.int .i64 K] w fun e w' => e = .returned (.string (mt K)) ∧ Below w.heap.size w w' := by
  have hk0 : ¬ (K : Int) ≤ 0 := by omega
  obtain ⟨M, hM⟩ : ∃ M, mtx K ⟨#[]⟩ = M := ⟨_, rfl⟩
  have HM := hide hM
  have hmt : mt K = (⟨#[109]⟩ : ByteArray) ++ M := by unfold mt; rw [hM]
  rw [hmt]
  clear hmt hM
  go_enter Tryd.func42, Tryd.ntmps42
  go_wp2_with fail
  go_loopw [0, 3] (fun q v w' => ∃ (n : Nat) (O : ByteArray), q = .int .i64 n ∧ v = .string O ∧ O.size + n ≤ 400000000 ∧ Hid (mtx n O = M) ∧ Hid (Below w.heap.size w w')) (fun q _ _ => (intOf q).toNat)
  case atStart => exact ⟨K, ⟨#[]⟩, rfl, rfl, by show 0 + K ≤ _; omega, HM, hide (Below.refl _ _)⟩
  case round =>
    obtain ⟨n, O, rfl, rfl, hz, hm, hb⟩ := hrel
    by_cases hn : n = 0
    · subst hn
      have eM := hide (show O = M by rw [← unhide hm, mtx_zero])
      have q1 : ¬ 9223372036854775806 < O.size := by omega
      have q2 : O.size ≤ 9223372036854775806 := by omega
      have q3 : ¬ 9223372036854775807 < 1 + O.size := by omega
      have q4 : 1 + O.size ≤ 9223372036854775807 := by omega
      go_wp2_with fail
      go_ret
      exact ⟨by rw [unhide eM]; rfl, unhide hb⟩
    · obtain ⟨c, hc⟩ : ∃ c, UInt8.ofNat (48 + n % 10) = c := ⟨_, rfl⟩
      have st := hide (show mtx (n / 10) ((⟨#[c]⟩ : ByteArray) ++ O) = M by rw [← unhide hm, mtx_step hn, hc])
      have hcc : (48 : Int) + (n : Int) % 10 = (c.toNat : Int) := by
        rw [← hc, UInt8.toNat_ofNat']
        omega
      have cv : (convert 22 9 (.slice (some ⟨wr.heap.size, 0, none⟩) 1 1)).run Tryd.prog (wr.alloc (.cells #[.int .u8 (c.toNat : Int)] 5)) = .ok (.string ⟨#[c]⟩) (wr.alloc (.cells #[.int .u8 (c.toNat : Int)] 5)) := conv_own (own_new wr c)
      have hp : (0 : Int) < (n : Int) := by omega
      have q1 : ¬ 9223372036854775806 < O.size := by omega
      have q2 : O.size ≤ 9223372036854775806 := by omega
      have q3 : ¬ 9223372036854775807 < 1 + O.size := by omega
      have q4 : 1 + O.size ≤ 9223372036854775807 := by omega
      have hlt : n / 10 < n := by omega
      have c256 := c.toNat_lt
      clear hc
      go_wp2_with fail
      refine ⟨⟨n / 10, (⟨#[c]⟩ : ByteArray) ++ O, ?_, rfl, ?_, st, hide (bAl (unhide hb) _)⟩, by simp [intOf]; omega⟩
      · rw [show (n : Int) / 10 = ((n / 10 : Nat) : Int) by omega]
      · rw [ByteArray.size_append]
        show 1 + O.size + n / 10 ≤ _
        omega

theorem gB {w w' : World} (row : Option Nat) (h : Below w.heap.size w w') : w.grownBy w' row := ⟨h.os, h.tape, h.output, h.size, fun k hk _ => h.block k hk⟩
theorem gSet (w : World) (g o : Nat) (v : Value) : w.grownBy (w.setCell ⟨g, o, none⟩ v) (some g) :=
  ⟨rfl, rfl, rfl, by simp [World.setCell], fun k _ hne => heap_setCell_other w ⟨g, o, none⟩ k v (by simpa using hne)⟩
theorem gBel {B : Nat} {w w' : World} {row : Option Nat} (h : w.grownBy w' row) (hB : B ≤ w.heap.size) (hr : ∀ k, row = some k → B ≤ k) : Below B w w' := (Below.refl B w).grown h hB hr
end Go.Proofs.YtppkgcedkdeccaaDoor
/- laws.markSessEventS, laws.heldSessEventS: a row of 5 cells an element. -/
namespace Go.Proofs.YtppkgcedkdeccaaDoor
open Go.RowKit

def MCSessEvent (C : Array Value) (o j : Nat) : Prop := C[o]? = some (.int .i64 ((j : Int))) ∧ C[o + 1]? = some (.int .i64 ((j : Int) + 1)) ∧ C[o + 2]? = some (.string (mt (j + 2))) ∧ C[o + 3]? = some (.string (mt (j + 3))) ∧ C[o + 4]? = some (.string (mt (j + 4)))
def MarkedSessEvent (C : Array Value) (s n : Nat) : Prop := ∀ i, i < n → MCSessEvent C (i * 5) (s + i * 5)
def MarksSessEvent (w : World) (v : Value) (s n : Nat) : Prop := (v = .slice none 0 0 ∧ n = 0) ∨ ∃ g cap C, v = .slice (some ⟨g, 0, none⟩) n cap ∧ RowIs w g C 34 ∧ MarkedSessEvent C s n
theorem MarksSessEvent.keep {w w' : World} {v : Value} {s n : Nat} (h : MarksSessEvent w v s n) (hb : Below w.heap.size w w') : MarksSessEvent w' v s n :=
  h.imp_right fun ⟨g, cap, C, e, r, m⟩ => ⟨g, cap, C, e, r.keep hb, m⟩
theorem MarkedSessEvent.set {C : Array Value} {s k j : Nat} (h : MarkedSessEvent C s k) (hs : k * 5 + 4 < C.size) (hj : j = s + k * 5) {V0 V1 V2 V3 V4 : Value} (e0 : V0 = .int .i64 ((j : Int))) (e1 : V1 = .int .i64 ((j : Int) + 1)) (e2 : V2 = .string (mt (j + 2))) (e3 : V3 = .string (mt (j + 3))) (e4 : V4 = .string (mt (j + 4))) : MarkedSessEvent (((((C.setIfInBounds (k * 5) (V0)).setIfInBounds (k * 5 + 1) (V1)).setIfInBounds (k * 5 + 2) (V2)).setIfInBounds (k * 5 + 3) (V3)).setIfInBounds (k * 5 + 4) (V4)) s (k + 1) := by
  intro i hi
  unfold MCSessEvent
  by_cases e : i = k
  · subst e
    subst hj
    subst e0 e1 e2 e3 e4
    have s0 : i * 5 < C.size := by omega
    have s1 : i * 5 + 1 < C.size := by omega
    have s2 : i * 5 + 2 < C.size := by omega
    have s3 : i * 5 + 3 < C.size := by omega
    have s4 : i * 5 + 4 < C.size := by omega
    simp [s0, s1, s2, s3, s4]
  · have := h i (by omega)
    unfold MCSessEvent at this
    simp only [Array.getElem?_setIfInBounds]
    repeat rw [if_neg (by omega)]
    exact this

set_option maxRecDepth 100000 in
set_option maxHeartbeats 4000000 in
theorem markSessEvent_row (g n cap s : Nat) (C0 : Array Value) (w : World) (hn : n ≤ 1048576) (hs1 : 1 ≤ s) (hs9 : s ≤ 100000000) (hC : n * 5 ≤ C0.size) (hr : RowIs w g C0 34) :
    Calls Tryd.prog 19 #[.slice (some ⟨g, 0, none⟩) n cap, .int .i64 s] w fun e w' => e = .returned (.int .i64 ((s + n * 5 : Nat) : Int)) ∧ (∃ C, RowIs w' g C 34 ∧ MarkedSessEvent C s n) ∧ w.grownBy w' (some g) := by
  have HR := hide hr
  clear hr
  go_enter Tryd.func19, Tryd.ntmps19
  go_wp2_with fail
  go_loopw [1, 5] (fun q i w' => ∃ (k j : Nat) (C : Array Value), k ≤ n ∧ i = .int .i64 k ∧ q = .int .i64 j ∧ 1 ≤ j ∧ j ≤ 200000000 ∧ Hid (j = s + k * 5) ∧ Hid (RowIs w' g C 34) ∧ Hid (n * 5 ≤ C.size) ∧ Hid (MarkedSessEvent C s k) ∧ Hid (w.grownBy w' (some g))) (fun _ i _ => n - (intOf i).toNat)
  case atStart => exact ⟨0, s, C0, Nat.zero_le _, rfl, rfl, hs1, by omega, hide (by omega), HR, hide hC, hide (fun i h => absurd h (Nat.not_lt_zero _)), hide (World.grownBy.refl _ _)⟩
  case round =>
    obtain ⟨k, j, C, hk, rfl, rfl, hj1, hj2, hj, hR, hCs, hM, hb⟩ := hrel
    by_cases hlt : k < n
    · have i0 : (0 : Int) ≤ (k : Int) := by omega
      have i1 : (k : Int) < (n : Int) := by omega
      have ej : j ≤ 109437184 := by have := unhide hj; omega
      have s9 : k * 5 + 4 < C.size := by have := unhide hCs; omega
      obtain ⟨X2, hX2⟩ : ∃ X, X = mt (j + 2) := ⟨_, rfl⟩
      have q2 : Hid (∀ w, Calls Tryd.prog 42 #[.int .i64 ((j : Int) + 1 + 1)] w fun e w' => e = .returned (.string X2) ∧ Below w.heap.size w w') := hide (fun w => by have := markText_any (j + 2) w (by omega) (by omega); rw [hX2]; rwa [show ((j + 2 : Nat) : Int) = (j : Int) + 1 + 1 by omega] at this)
      obtain ⟨X3, hX3⟩ : ∃ X, X = mt (j + 3) := ⟨_, rfl⟩
      have q3 : Hid (∀ w, Calls Tryd.prog 42 #[.int .i64 ((j : Int) + 1 + 1 + 1)] w fun e w' => e = .returned (.string X3) ∧ Below w.heap.size w w') := hide (fun w => by have := markText_any (j + 3) w (by omega) (by omega); rw [hX3]; rwa [show ((j + 3 : Nat) : Int) = (j : Int) + 1 + 1 + 1 by omega] at this)
      obtain ⟨X4, hX4⟩ : ∃ X, X = mt (j + 4) := ⟨_, rfl⟩
      have q4 : Hid (∀ w, Calls Tryd.prog 42 #[.int .i64 ((j : Int) + 1 + 1 + 1 + 1)] w fun e w' => e = .returned (.string X4) ∧ Below w.heap.size w w') := hide (fun w => by have := markText_any (j + 4) w (by omega) (by omega); rw [hX4]; rwa [show ((j + 4 : Nat) : Int) = (j : Int) + 1 + 1 + 1 + 1 by omega] at this)
      have stM := hide ((unhide hM).set (j := j) (V0 := .int .i64 ((j : Int))) (V1 := .int .i64 ((j : Int) + 1)) (V2 := .string X2) (V3 := .string X3) (V4 := .string X4) s9 (unhide hj) rfl rfl (by rw [hX2]) (by rw [hX3]) (by rw [hX4]))
      clear hX2 hX3 hX4
      have R0 := hR
      have B0 := hb
      clear hR hb hM
      have f0 := (unhide R0).froz (k * 5)
      have g0 := (unhide R0).cell (k * 5)
      obtain ⟨D0, d0⟩ : ∃ D, (C)[k * 5]? = some D := ⟨_, Array.getElem?_eq_getElem (by first | omega | (simp; omega))⟩
      rw [d0] at g0
      clear d0
      have f1 := (unhide R0).froz (k * 5 + 1)
      have g1 := (unhide R0).cell (k * 5 + 1)
      obtain ⟨D1, d1⟩ : ∃ D, (C)[k * 5 + 1]? = some D := ⟨_, Array.getElem?_eq_getElem (by first | omega | (simp; omega))⟩
      rw [d1] at g1
      clear d1
      have R2 := hide (((unhide R0).set (k * 5) (.int .i64 ((j : Int)))).set (k * 5 + 1) (.int .i64 ((j : Int) + 1)))
      have B2 := hide (((unhide B0).trans (gSet _ g (k * 5) (.int .i64 ((j : Int))))).trans (gSet _ g (k * 5 + 1) (.int .i64 ((j : Int) + 1))))
      clear R0 B0
      go_wp2_with fail
      refine (unhide q2 _).mono ?_
      rintro e w3 ⟨rfl, hb2⟩
      have B2a := hide ((unhide B2).trans (gB (some g) hb2))
      have R2a := hide ((unhide R2).keep hb2)
      clear hb2 q2 R2 B2
      have f2 := (unhide R2a).froz (k * 5 + 2)
      have g2 := (unhide R2a).cell (k * 5 + 2)
      obtain ⟨D2, d2⟩ : ∃ D, (((C.setIfInBounds (k * 5) (.int .i64 ((j : Int)))).setIfInBounds (k * 5 + 1) (.int .i64 ((j : Int) + 1))))[k * 5 + 2]? = some D := ⟨_, Array.getElem?_eq_getElem (by first | omega | (simp; omega))⟩
      rw [d2] at g2
      clear d2
      have R3 := hide ((unhide R2a).set (k * 5 + 2) (.string X2))
      have B3 := hide ((unhide B2a).trans (gSet _ g (k * 5 + 2) (.string X2)))
      clear R2a B2a
      go_wp2_with fail
      refine (unhide q3 _).mono ?_
      rintro e w4 ⟨rfl, hb3⟩
      have B3a := hide ((unhide B3).trans (gB (some g) hb3))
      have R3a := hide ((unhide R3).keep hb3)
      clear hb3 q3 R3 B3
      have f3 := (unhide R3a).froz (k * 5 + 3)
      have g3 := (unhide R3a).cell (k * 5 + 3)
      obtain ⟨D3, d3⟩ : ∃ D, ((((C.setIfInBounds (k * 5) (.int .i64 ((j : Int)))).setIfInBounds (k * 5 + 1) (.int .i64 ((j : Int) + 1))).setIfInBounds (k * 5 + 2) (.string X2)))[k * 5 + 3]? = some D := ⟨_, Array.getElem?_eq_getElem (by first | omega | (simp; omega))⟩
      rw [d3] at g3
      clear d3
      have R4 := hide ((unhide R3a).set (k * 5 + 3) (.string X3))
      have B4 := hide ((unhide B3a).trans (gSet _ g (k * 5 + 3) (.string X3)))
      clear R3a B3a
      go_wp2_with fail
      refine (unhide q4 _).mono ?_
      rintro e w5 ⟨rfl, hb4⟩
      have B4a := hide ((unhide B4).trans (gB (some g) hb4))
      have R4a := hide ((unhide R4).keep hb4)
      clear hb4 q4 R4 B4
      have f4 := (unhide R4a).froz (k * 5 + 4)
      have g4 := (unhide R4a).cell (k * 5 + 4)
      obtain ⟨D4, d4⟩ : ∃ D, (((((C.setIfInBounds (k * 5) (.int .i64 ((j : Int)))).setIfInBounds (k * 5 + 1) (.int .i64 ((j : Int) + 1))).setIfInBounds (k * 5 + 2) (.string X2)).setIfInBounds (k * 5 + 3) (.string X3)))[k * 5 + 4]? = some D := ⟨_, Array.getElem?_eq_getElem (by first | omega | (simp; omega))⟩
      rw [d4] at g4
      clear d4
      have R5 := hide ((unhide R4a).set (k * 5 + 4) (.string X4))
      have B5 := hide ((unhide B4a).trans (gSet _ g (k * 5 + 4) (.string X4)))
      clear R4a B4a
      go_wp2_with fail
      exact ⟨⟨k + 1, j + 5, _, by omega, by go_num, by go_num, by omega, by omega, hide (by have := unhide hj; omega), R5, hide (by simp; exact unhide hCs), stM, B5⟩, by simp [intOf]; omega⟩
    · have e : k = n := by omega
      have ej := hide (show j = s + n * 5 by rw [← e]; exact unhide hj)
      go_wp2_with fail
      go_ret
      exact ⟨by rw [unhide ej]; rfl, ⟨C, unhide hR, by rw [← e]; exact unhide hM⟩, unhide hb⟩

theorem markSessEvent_own (v : Value) (n s : Nat) (xs : List Value) (base : Nat) (w : World) (hn : n ≤ 1048576) (hs1 : 1 ≤ s) (hs9 : s ≤ 100000000) (h : w.ownsRow base 34 5 v n xs) :
    Calls Tryd.prog 19 #[v, .int .i64 s] w fun e w' => e = .returned (.int .i64 ((s + n * 5 : Nat) : Int)) ∧ MarksSessEvent w' v s n ∧ w.grownBy w' v.ownBlock := by
  rcases h.2 with ⟨rfl, e0⟩ | ⟨g, cap, cur, rfl, _, hh, hc, _, hsz, _⟩
  · go_enter Tryd.func19, Tryd.ntmps19
    go_wp2_with fail
    go_loopw [1, 5] (fun q i w' => i = .int .i64 0 ∧ q = .int .i64 s ∧ w = w') (fun _ _ _ => 0)
    case atStart => exact ⟨rfl, rfl, rfl⟩
    case round =>
      obtain ⟨rfl, rfl, rfl⟩ := hrel
      go_wp2_with fail
      go_ret
      exact ⟨by rw [e0]; simp, .inl ⟨rfl, e0⟩, World.grownBy.refl _ _⟩
  · have hr : RowIs w g cur 34 := hh
    refine (markSessEvent_row g n cap s cur w hn hs1 hs9 (by rw [hsz]; exact Nat.mul_le_mul_right _ hc) hr).mono ?_
    rintro e w' ⟨rfl, ⟨C, hr', hM⟩, hb⟩
    exact ⟨rfl, .inr ⟨g, cap, C, rfl, hr', hM⟩, hb⟩
end Go.Proofs.YtppkgcedkdeccaaDoor
