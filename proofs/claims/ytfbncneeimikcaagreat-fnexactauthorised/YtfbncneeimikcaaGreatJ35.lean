/- OVc, BMkT, one behind the other. -/
import Derived.Test.YtfbncneeimikcaaGreatJ34
import Derived.Test.YtfbncneeimikcaaGreatJ8
import Derived.Laws.AppendOwn
import Derived.Lib.SlBytesRow
import Derived.Lib.BufferRead
import Derived.Lib.SmallJoins
import Derived.OwnWalk
/- impl.Authorised. -/
namespace Go.Proofs.YtfbncneeimikcaaGreat.V
set_option linter.unusedSimpArgs false
set_option linter.unusedVariables false
open Go.RowKit Go.Maps

theorem und_au {rs : List RoleT} {gs : List RoleGrantT} {u : ByteArray} {t : Int} {L : ByteArray → ByteArray → Option Nat} (h : DpI gs t 3 0 L) (hd : DepOk gs) (hg : ∀ g ∈ gs, ByteArray.size g.f1 ≤ maxLen) (y : ByteArray) : UnD rs (L u) y ↔ AuM rs gs u t y := by
  constructor
  · rintro ⟨a, ⟨_, h1⟩, h2, h3⟩
    obtain ⟨g, hgm, e0, rfl, hc⟩ := (h.has hd u a).1 h1
    exact ⟨g, hgm, ⟨h2, e0, hc⟩, h3⟩
  · rintro ⟨g, hgm, ⟨h2, e0, hc⟩, h3⟩
    exact ⟨g.f1, ⟨hg g hgm, (h.has hd u g.f1).2 ⟨g, hgm, e0, rfl, hc⟩⟩, h2, h3⟩
set_option maxRecDepth 40000 in
set_option maxHeartbeats 8000000 in
theorem iAuthorised_n (e : RoleSetE) (x : RoleStateE) (u : ByteArray) (t : Int) (w : World) (hu : u.size ≤ maxLen) (hn : RoleSetN e.t) (hm : RoleSetM w 0 e) (hxn : RoleStateN x.t) (hsm : RoleStateSm x.t) (hxm : RoleStateM w 0 x) :
    Calls Tryz.prog 9 #[.agg #[.slice e.h0.a e.h0.len e.h0.cap, .slice e.h1.a e.h1.len e.h1.cap, .slice e.h2.a e.h2.len e.h2.cap], .agg #[.slice x.h0.a x.h0.len x.h0.cap, .slice x.h1.a x.h1.len x.h1.cap, .slice x.h2.a x.h2.len x.h2.cap, .int .i64 x.t.f3], .string u, .int .i64 t] w fun r w' => (∃ v rr, r = .returned v ∧ AuIs e.t x.t u t rr ∧ w'.ownsRow w.heap.size 9 1 v rr.length (rr.map Value.string)) ∧ Below w.heap.size w w' := by
  have B := hide (bAl (bAl (Below.refl w.heap.size w) (.cells #[.slice e.h0.a e.h0.len e.h0.cap, .slice e.h1.a e.h1.len e.h1.cap, .slice e.h2.a e.h2.len e.h2.cap] 38)) (.cells #[.slice x.h0.a x.h0.len x.h0.cap, .slice x.h1.a x.h1.len x.h1.cap, .slice x.h2.a x.h2.len x.h2.cap, .int .i64 x.t.f3] 43))
  have q := hide (roleViewOf_n e x t _ hn (hm.keep (unhide B)) hxn hsm (hxm.keep (unhide B)))
  have GN : Hid (∀ g ∈ x.t.f1, ByteArray.size g.f1 ≤ maxLen) := hide (fun g hg => (hxn.o1 g hg).o1)
  clear hn hm hxn hsm hxm
  go_enter Tryz.func9, Tryz.ntmps9
  go_wp2_with fail
  refine (unhide q).mono ?_
  rintro r w1 ⟨hr, hb⟩
  rcases hr with ⟨hno, rfl⟩ | ⟨hok, b1, b2, hp, hg, bd, lo, rs, tabJ, L, tabD, rfl, het, hrn, hj, hd, hpi⟩
  · have no : Hid (AuIs e.t x.t u t []) := hide (.inr ⟨hno, rfl⟩)
    have BE := hide (bAl (bTr (unhide B) hb) (.cells #[.map none, .map none, .slice none 0 0, .slice none 0 0, .map none, .int .i64 0] 72))
    clear hno hb q B GN
    go_wp2_with fail
    go_ret
    exact ⟨⟨_, [], rfl, unhide no, World.ownsRow_nil _ _ _ _⟩, unhide BE⟩
  obtain ⟨W, hW⟩ : ∃ W, W = w1.alloc (.cells #[.map (some b1), .map (some b2), .slice hp.a hp.len hp.cap, .slice hg.a hg.len hg.cap, .map (some bd), .int .i64 t] 72) := ⟨_, rfl⟩
  have bW : Below w1.heap.size w1 W := by rw [hW]; exact bAl (Below.refl _ _) _
  have qa := hide (authV_n b1 b2 hp hg bd lo t rs tabJ L tabD u W hu hrn (hj.keep bW) (hd.keep bW))
  have BW := hide (bTr (bTr (unhide B) hb) bW)
  have FIN : Hid (∀ rr : List ByteArray, RisS rr → (∀ y, y ∈ rr ↔ ByteArray.size y ≤ maxLen ∧ (chM (UnD (rs.map (·.t)) (L u)) y).isSome = true) → AuIs e.t x.t u t rr) := hide (fun rr h1 h2 => .inl ⟨hok, h1, fun y => by
    rw [h2 y, chM_some, und_au hpi hok.2.2.2 (unhide GN), het]
    refine ⟨And.right, fun h => ⟨?_, h⟩⟩
    obtain ⟨g, hgm, _, h3⟩ := h
    rw [← het] at h3
    exact jmem_ok hrn (unhide GN g hgm) h3⟩)
  have HW := hide hW.symm
  clear hok het hrn hj hd hpi hb q B GN bW hW
  go_wp2_with fail
  rw [unhide HW]
  refine (unhide qa).mono ?_
  rintro r w2 ⟨⟨bo, rfl, hk⟩, hb2⟩
  have qk := hide (keysSet_big bo 1000000 _ w2 hk (by omega))
  have B2 := hide (bTr (unhide BW) hb2)
  clear hk hb2 qa HW BW
  go_wp2_with fail
  refine (unhide qk).mono ?_
  rintro r w3 ⟨⟨v, rr, rfl, h1, h2, _, ho⟩, hb3⟩
  have JJ := hide (unhide FIN rr h1 h2)
  have HO := hide (own_base ho (unhide B2).size)
  have B3 := hide (bTr (unhide B2) hb3)
  clear h1 h2 ho hb3 qk FIN
  go_wp2_with fail
  go_ret
  exact ⟨⟨_, rr, rfl, unhide JJ, unhide HO⟩, unhide B3⟩
theorem AuIs.uniq {x : RoleSetT} {st : RoleStateT} {u : ByteArray} {t : Int} {r s : List ByteArray} (h : AuIs x st u t r) (k : AuIs x st u t s) : r = s := by
  rcases h with ⟨h1, h3, h4⟩ | ⟨h1, h2⟩ <;> rcases k with ⟨k1, k3, k4⟩ | ⟨k1, k2⟩
  · exact h3.ext k3 (fun y => (h4 y).trans (k4 y).symm)
  · exact absurd h1 k1
  · exact absurd k1 h1
  · rw [h2, k2]
theorem AuIs.len {x : RoleSetT} {st : RoleStateT} {u : ByteArray} {t : Int} {r : List ByteArray} (h : AuIs x st u t r) : r.length ≤ 31 := by
  rcases h with ⟨h1, h3, h4⟩ | ⟨h1, h2⟩
  · have nd : r.Nodup := h3.imp fun {a b} hab e => by subst e; exact cmpB_irr a hab
    have := nodup_le r (nms x.f0) nd (fun y hy => by
      obtain ⟨g, _, ⟨h5, _⟩, h6⟩ := (h4 y).1 hy
      rcases h6 with e | e
      · rw [e]; exact h5
      · exact rch_in h1.1.2.1 e)
    have h5 := h1.1.1.1.1
    simp [nms] at this
    omega
  · rw [h2]; simp
end Go.Proofs.YtfbncneeimikcaaGreat.V
/- laws.markText. -/
/- laws.markText. -/
namespace Go.Proofs.YtfbncneeimikcaaGreat.V
open Go.RowKit

def byteV (c : UInt8) : Value := .int .u8 (c.toNat : Int)
theorem conv_own {w : World} {base : Nat} {v : Value} {l : List UInt8} (h : w.ownsRow base 5 1 v l.length (l.map byteV)) :
    (convert 135 9 v).run Tryz.prog w = .ok (.string ⟨l.toArray⟩) w := by
  rcases h.2 with ⟨rfl, e⟩ | ⟨g, cap, cur, rfl, _, hh, _, _, hsz, htk⟩
  · have : l = [] := List.length_eq_zero_iff.1 e
    subst this
    exact Go.Lib.run_convert_nil_bytes w 135 9 5 0 Tryz.underlying135 Tryz.underlying5 Tryz.underlying9
  · have := Go.Lib.run_convert_whole (P := Tryz.prog) w 135 5 9 Tryz.underlying135 Tryz.underlying5 Tryz.underlying9 g 0 ⟨l.toArray⟩ (fun i hi => by
      have hi' : i < l.length := hi
      have hr : RowIs w g cur 5 := hh
      have f0 : (l.map byteV)[i]? = some (.int .u8 (l[i].toNat : Int)) := by simp [byteV, hi']
      rw [← htk, List.getElem?_take] at f0
      rw [Nat.zero_add, hr.cell, ← Array.getElem?_toList]
      split at f0
      · exact f0
      · cases f0) cap
    exact this

/-- The digits of n, ahead of O. -/
def mtx (n : Nat) (O : ByteArray) : ByteArray := if _h : n = 0 then O else mtx (n / 10) ((⟨#[UInt8.ofNat (48 + n % 10)]⟩ : ByteArray) ++ O)
termination_by n
decreasing_by omega
theorem mtx_zero (O : ByteArray) : mtx 0 O = O := by rw [mtx]; simp
theorem mtx_step {n : Nat} (h : ¬ n = 0) (O : ByteArray) : mtx n O = mtx (n / 10) ((⟨#[UInt8.ofNat (48 + n % 10)]⟩ : ByteArray) ++ O) := by
  conv => lhs; rw [mtx]
  rw [dif_neg h]
def mt (n : Nat) : ByteArray := (⟨#[109]⟩ : ByteArray) ++ mtx n ⟨#[]⟩

theorem own_new (w : World) (c : UInt8) : (w.alloc (.cells #[.int .u8 (c.toNat : Int)] 5)).ownsRow w.heap.size 5 1 (.slice (some ⟨w.heap.size, 0, none⟩) 1 1) ([c] : List UInt8).length (([c] : List UInt8).map byteV) := by
  refine ⟨by simp, .inr ⟨w.heap.size, 1, #[.int .u8 (c.toNat : Int)], rfl, Nat.le_refl _, ?_, Nat.le_refl _, by decide, by simp, by simp [byteV]⟩⟩
  exact RowIs.new w #[.int .u8 (c.toNat : Int)] 5

set_option maxRecDepth 100000 in
set_option maxHeartbeats 1000000 in
theorem markText_any (K : Nat) (w : World) (h1 : 1 ≤ K) (h2 : K ≤ 9000000000000000000) :
    Calls Tryz.prog 45 #[.int .i64 K] w fun e w' => e = .returned (.string (mt K)) ∧ Below w.heap.size w w' := by
  have hk0 : ¬ (K : Int) ≤ 0 := by omega
  obtain ⟨M, hM⟩ : ∃ M, mtx K ⟨#[]⟩ = M := ⟨_, rfl⟩
  have HM := hide hM
  have hmt : mt K = (⟨#[109]⟩ : ByteArray) ++ M := by unfold mt; rw [hM]
  rw [hmt]
  clear hmt hM
  go_enter Tryz.func45, Tryz.ntmps45
  go_wp2_with fail
  go_loopw [0, 3] (fun q v w' => ∃ (n : Nat) (O : ByteArray), q = .int .i64 n ∧ v = .string O ∧ O.size + n ≤ 9000000000000000000 ∧ Hid (mtx n O = M) ∧ Hid (Below w.heap.size w w')) (fun q _ _ => (intOf q).toNat)
  case atStart => exact ⟨K, ⟨#[]⟩, rfl, rfl, by show 0 + K ≤ _; omega, HM, hide (Below.refl _ _)⟩
  case round =>
    obtain ⟨n, O, rfl, rfl, hz, hm, hb⟩ := hrel
    by_cases hn : n = 0
    · subst hn
      have eM := hide (show O = M by rw [← unhide hm, mtx_zero])
      have q1 : ¬ 9223372036854775806 < O.size := by omega
      have q2 : O.size ≤ 9223372036854775806 := by omega
      have q3 : ¬ 9223372036854775807 < 1 + O.size := by omega
      have q4 : 1 + O.size ≤ 9223372036854775807 := by omega
      go_wp2_with fail
      go_ret
      exact ⟨by rw [unhide eM]; rfl, unhide hb⟩
    · obtain ⟨c, hc⟩ : ∃ c, UInt8.ofNat (48 + n % 10) = c := ⟨_, rfl⟩
      have st := hide (show mtx (n / 10) ((⟨#[c]⟩ : ByteArray) ++ O) = M by rw [← unhide hm, mtx_step hn, hc])
      have hcc : (48 : Int) + (n : Int) % 10 = (c.toNat : Int) := by
        rw [← hc, UInt8.toNat_ofNat']
        omega
      have cv : (convert 135 9 (.slice (some ⟨wr.heap.size, 0, none⟩) 1 1)).run Tryz.prog (wr.alloc (.cells #[.int .u8 (c.toNat : Int)] 5)) = .ok (.string ⟨#[c]⟩) (wr.alloc (.cells #[.int .u8 (c.toNat : Int)] 5)) := conv_own (own_new wr c)
      have hp : (0 : Int) < (n : Int) := by omega
      have q1 : ¬ 9223372036854775806 < O.size := by omega
      have q2 : O.size ≤ 9223372036854775806 := by omega
      have q3 : ¬ 9223372036854775807 < 1 + O.size := by omega
      have q4 : 1 + O.size ≤ 9223372036854775807 := by omega
      have hlt : n / 10 < n := by omega
      have c256 := c.toNat_lt
      clear hc
      go_wp2_with fail
      refine ⟨⟨n / 10, (⟨#[c]⟩ : ByteArray) ++ O, ?_, rfl, ?_, st, hide (bAl (unhide hb) _)⟩, by simp [intOf]; omega⟩
      · rw [show (n : Int) / 10 = ((n / 10 : Nat) : Int) by omega]
      · rw [ByteArray.size_append]
        show 1 + O.size + n / 10 ≤ _
        omega

theorem gB {w w' : World} (row : Option Nat) (h : Below w.heap.size w w') : w.grownBy w' row := ⟨h.os, h.tape, h.output, h.size, fun k hk _ => h.block k hk⟩
theorem gSet (w : World) (g o : Nat) (v : Value) : w.grownBy (w.setCell ⟨g, o, none⟩ v) (some g) :=
  ⟨rfl, rfl, rfl, by simp [World.setCell], fun k _ hne => heap_setCell_other w ⟨g, o, none⟩ k v (by simpa using hne)⟩
theorem gBel {B : Nat} {w w' : World} {row : Option Nat} (h : w.grownBy w' row) (hB : B ≤ w.heap.size) (hr : ∀ k, row = some k → B ≤ k) : Below B w w' := (Below.refl B w).grown h hB hr
end Go.Proofs.YtfbncneeimikcaaGreat.V
