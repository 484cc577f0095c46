/- impl.RotateRing's order, impl.keptKeys. -/
import Derived.Test.YtenbliiombjldaaKOp
import Derived.Test.YtenbliiombjldaaGGro
import Derived.Deep.RegionHeld3
import Derived.Deep.AppendLies
import Derived.Deep.Cut
namespace Go.Proofs.Ytenbliiombjldaa
open Go.RowKit
set_option maxRecDepth 20000

theorem addr_plusK (b off k : Nat) : (⟨b, off, none⟩ : Addr).add k = ⟨b, off + k, none⟩ := by simp [Addr.add]
theorem cell_newK (W : World) (n : Nat) (hn : n = W.heap.size) (C : Array Value) (t : TypeId) (l : List Value) (hl : l = C.toList) : ∀ j u, l[j]? = some u → (W.alloc (.cells C t)).cell? ((⟨n, 0, none⟩ : Addr).add j) = some u := by
  subst hn hl
  intro j u hu
  rw [addr_plusK, Nat.zero_add]
  exact (RowIs.new W C t).at (by rw [← Array.getElem?_toList]; exact hu)
theorem info_partsK {P : Program} {t : TypeId} {z : Value} {n b : Nat} (h : (P.info? t).map (fun i => (i.zero, i.size, i.bytes)) = some (some z, n, b)) : ∃ i, P.info? t = some i ∧ i.zero = some z ∧ i.size = n ∧ i.bytes = b := by
  obtain ⟨i, h1, h2⟩ := Option.map_eq_some_iff.1 h
  simp only [Prod.mk.injEq] at h2
  exact ⟨i, h1, h2.1, h2.2.1, h2.2.2⟩
set_option maxHeartbeats 1000000 in
theorem rotOrder_gr (x y : KeyT) (w : World) :
    Calls Try.prog 20 #[.agg #[.string x.f0, .int .i64 x.f1, .int .i64 x.f2, .int .i64 x.f3], .agg #[.string y.f0, .int .i64 y.f1, .int .i64 y.f2, .int .i64 y.f3]] w fun e w' => e = .returned (.int .i64 (cmpK x y)) ∧ Gr w w' := by
  obtain ⟨f0, f1, f2, f3⟩ := x
  obtain ⟨g0, g1, g2, g3⟩ := y
  have q := hide (fun w => stringsCompare_any f0 g0 w)
  have E : Hid (cmpK ⟨f0, f1, f2, f3⟩ ⟨g0, g1, g2, g3⟩ = cmpT f0.data.toList g0.data.toList) := hide rfl
  rw [unhide E]
  generalize cmpT f0.data.toList g0.data.toList = cc at q ⊢
  simp only
  go_enter Try.func20, Try.ntmps20
  go_wp2_with (go_at_call 21; refine (unhide q _).mono ?_; rintro e w' ⟨rfl, rfl⟩)
  go_ret
  exact ⟨rfl, ((Gr.refl _).alloc _).alloc _⟩
/-- What keptKeys holds. -/
structure KK (w0 w : World) (v : Value) (O : List KeyT) : Prop where
  out : w.ownsRow w0.heap.size 30 4 v O.length (KeysV O)
  below : Below w0.heap.size w0 w
theorem KK.keep {w0 w w' : World} {v : Value} {O : List KeyT} (h : KK w0 w v O) (hb : Below w.heap.size w w') : KK w0 w' v O := ⟨own_keep h.out hb, bTr h.below hb⟩
theorem KK.app {w0 w w' : World} {v v' : Value} {O : List KeyT} {c : KeyT} {o : Obj} (h0 : KK w0 w v O)
    (hown : w'.ownsRow w0.heap.size 30 4 v' (O.length + 1) (KeysV O ++ encKey c)) (hg : (w.alloc o).grownBy w' v.ownBlock) : KK w0 w' v' (O ++ [c]) := by
  have h := h0.keep (bAl (Below.refl _ w) o)
  exact ⟨by rw [List.length_append, KeysV_snoc]; exact hown, h.below.grown hg h.below.size (fun k hk => (h.out.lt k hk).1)⟩
set_option maxHeartbeats 2000000 in
theorem keptKeys_any (a : Option Addr) (len cap : Nat) (l : List KeyT) (t e : Int) (w : World) (hl : len ≤ 1000) (hs : SlKey w a len l) :
    Calls Try.prog 18 #[.slice a len cap, .int .i64 t, .int .i64 e] w fun r w' => ∃ v, r = .returned v ∧ KK w w' v (kpt t e l) := by
  obtain ⟨i0, hi, hz0, hz1, hz2⟩ := info_partsK info_Key
  have HS := hide hs
  have HL := hide hs.1
  clear hs
  have K0 := hide (show KK w w (.slice none 0 0) (kpt t e (l.take 0)) from ⟨by simp [kpt]; exact World.ownsRow_nil _ _ _ _, Below.refl _ _⟩)
  go_enter Try.func18, Try.ntmps18
  go_wp2_with fail
  go_loopw [7, 12] (fun v i wr => ∃ k : Nat, k ≤ len ∧ i = .int .i64 k ∧ Hid (KK w wr v (kpt t e (l.take k)))) (fun _ i _ => len - (Go.RowKit.intOf i).toNat)
  case atStart => exact ⟨0, Nat.zero_le _, rfl, K0⟩
  case round =>
    clear K0
    obtain ⟨k, hk, rfl, hK⟩ := hrel
    by_cases hlt : k < len
    case neg =>
      have ek : l.take k = l := List.take_of_length_le (by have := unhide HL; omega)
      rw [ek] at hK
      clear ek
      go_wp2_with fail
      go_ret
      exact ⟨_, rfl, unhide hK⟩
    have hk' : k < l.length := by have := unhide HL; omega
    obtain ⟨b, off, rfl, hrow⟩ := ((unhide HS).keep (unhide hK).below).at hlt
    have c0 := hrow.c0 k hk'
    have c1 := hrow.c1 k hk'
    have c2 := hrow.c2 k hk'
    have c3 := hrow.c3 k hk'
    have YES := hide (fun (h : t ≤ l[k].f3 ∧ l[k].f2 ≤ e) => kpt_yes (t := t) (e := e) (l := l.take k) (x := l[k]) h)
    have NO := hide (fun (h : ¬ (t ≤ l[k].f3 ∧ l[k].f2 ≤ e)) => kpt_no (t := t) (e := e) (l := l.take k) (x := l[k]) h)
    rw [← take_snocK hk'] at YES NO
    have LN : (kpt t e (l.take k)).length ≤ 1000 := by have := kpt_len t e (l.take k); simp at this; omega
    clear hrow
    generalize kpt t e (l.take k) = O at YES NO hK LN
    have ER : Hid (∀ O', kpt t e (l.take (k + 1)) = O' → ∀ v w', KK w w' v O' → KK w w' v (kpt t e (l.take (k + 1)))) := hide (fun O' h v w' k => by rw [h]; exact k)
    generalize l[k] = A at *
    obtain ⟨f0, f1, f2, f3⟩ := A
    simp only at c0 c1 c2 c3 YES NO
    by_cases g1 : t ≤ f3
    case neg =>
      have d : decide (t ≤ f3) = false := decide_eq_false g1
      have E := unhide NO (fun h => g1 h.1)
      have K2 := hide (unhide ER _ E _ _ ((unhide hK).keep (bAl (Below.refl _ _) (.cells #[.string f0, .int .i64 f1, .int .i64 f2, .int .i64 f3] 30))))
      clear E YES NO ER hK g1
      go_wp2_with fail
      exact ⟨⟨k + 1, by omega, by go_num, K2⟩, by simp [Go.RowKit.intOf]; omega⟩
    have d1 : decide (t ≤ f3) = true := decide_eq_true g1
    by_cases g2 : f2 ≤ e
    case neg =>
      have d : decide (f2 ≤ e) = false := decide_eq_false g2
      have E := unhide NO (fun h => g2 h.2)
      have K2 := hide (unhide ER _ E _ _ ((unhide hK).keep (bAl (Below.refl _ _) (.cells #[.string f0, .int .i64 f1, .int .i64 f2, .int .i64 f3] 30))))
      clear E YES NO ER hK g1 g2
      go_wp2_with fail
      exact ⟨⟨k + 1, by omega, by go_num, K2⟩, by simp [Go.RowKit.intOf]; omega⟩
    have d2 : decide (f2 ≤ e) = true := decide_eq_true g2
    have E := hide (unhide NO)
    clear E
    have E := hide (unhide YES ⟨g1, g2⟩)
    obtain ⟨W, hW⟩ : ∃ W, W = wr.alloc (.cells #[.string f0, .int .i64 f1, .int .i64 f2, .int .i64 (min f3 e)] 30) := ⟨_, rfl⟩
    have R := show RowIs W wr.heap.size #[.string f0, .int .i64 f1, .int .i64 f2, .int .i64 (min f3 e)] 30 by rw [hW]; exact RowIs.new _ _ _
    have KW := hide ((unhide hK).keep (show Below wr.heap.size wr W by rw [hW]; exact bAl (Below.refl _ _) _))
    have x0 := R.at (o := 0) (v := .string f0) rfl
    have x1 := R.at (o := 1) (v := .int .i64 f1) rfl
    have x2 := R.at (o := 2) (v := .int .i64 f2) rfl
    have x3 := R.at (o := 3) (v := .int .i64 (min f3 e)) rfl
    have zx := R.lt
    have HW := hide hW.symm
    have zw := (unhide KW).below.size
    clear YES NO hK g1 g2 hW R
    go_upto_region 7 with fail
    rw [unhide HW]
    clear HW c0 c1 c2 c3
    go_wp2_with (at_builtin; refine wpList_append_own_at _ rfl _ _ 27 rfl w.heap.size 30 i0 _ 4 40 Try.underlying27 hi hz0 hz1 hz2 rfl (by decide) _ _ _ rfl ((unhide KW).out.alloc _) ⟨_, 0, none⟩ 1 1 [.string f0, .int .i64 f1, .int .i64 f2, .int .i64 (min f3 e)] rfl rfl (cell_newK _ _ rfl _ _ _ rfl) (fun x hx => by simp at hx; rcases hx with rfl | rfl | rfl | rfl <;> rfl) (by unfold maxLen; omega) (by omega) (by simp; omega) ?_; intro v5 w5 hown hgrow _ hat; have K4 := hide ((unhide KW).app (c := ⟨f0, f1, f2, min f3 e⟩) hown hgrow); clear hown hgrow hat)
    exact ⟨⟨k + 1, by omega, by go_num, hide (unhide ER _ (unhide E) _ _ (unhide K4))⟩, by simp [Go.RowKit.intOf]; omega⟩
end Go.Proofs.Ytenbliiombjldaa
