/- impl.GroupsOf, MembersOf, Loops. -/
import Derived.Test.YtakjnbdjjeccoaaGDel
namespace Go.Proofs.Ytakjnbdjjeccoaa
open Go.RowKit Go.Maps

theorem EdG.ok {l : List NestT} {x y : Bs} (h : EdG l x y) : x.size ≤ 30 ∧ y.size ≤ 30 := by
  obtain ⟨hG, i, hi, rfl, rfl⟩ := h
  have := hG.2.1 i hi hi
  unfold gNe gNest isGrp at this
  simp only [Bool.and_eq_true] at this
  exact ⟨goodName_le this.1.1, goodName_le this.2⟩
theorem EdG.grp {l : List NestT} {x y : Bs} (h : EdG l x y) : isGrp x = true := by
  obtain ⟨hG, i, hi, rfl, rfl⟩ := h
  have := hG.2.1 i hi hi
  unfold gNe gNest at this
  simp only [Bool.and_eq_true] at this
  exact this.1
theorem dist_first {B : Type} {E : B → B → Prop} {a b : B} {n : Nat} (h : Dist E a b n) : ∃ c, E a c := by
  obtain ⟨h1, h2, _⟩ := h
  obtain ⟨m, rfl⟩ : ∃ m, n = m + 1 := ⟨n - 1, by omega⟩
  obtain ⟨c, hc, _⟩ := h2.head
  exact ⟨c, hc⟩
theorem dist_last {B : Type} {E : B → B → Prop} {a b : B} {n : Nat} (h : Dist E a b n) : ∃ c, E c b := by
  obtain ⟨h1, h2, _⟩ := h
  obtain ⟨m, rfl⟩ : ∃ m, n = m + 1 := ⟨n - 1, by omega⟩
  obtain ⟨c, _, hc⟩ := h2
  exact ⟨c, hc⟩
/-- b is in a. -/
def Inn (l : List NestT) (a b : Bs) : Prop := ∃ n, Dist (EdG l) a b n
theorem intM_isSome (L : Bs → Option Nat) (x : Bs) : (intM L x).isSome = (L x).isSome := by unfold intM; cases L x <;> rfl
theorem isSome_iff {L : Bs → Option Nat} {x : Bs} : (L x).isSome = true ↔ ∃ k, L x = some k := Option.isSome_iff_exists

/-- What GroupsOf, MembersOf, Loops tell. -/
def PGrp (l : List NestT) (m : Bs) (r : List Bs) : Prop := RisS r ∧ ∀ g, g ∈ r ↔ Inn l g m
def PMem (l : List NestT) (g : Bs) (r : List Bs) : Prop := RisS r ∧ ∀ m, m ∈ r ↔ Inn l g m ∧ isGrp m = false
def PLoo (l : List NestT) (r : List Bs) : Prop := RisS r ∧ ∀ g, g ∈ r ↔ Inn l g g

theorem own_base {w : World} {base base' e size : Nat} {v : Value} {n : Nat} {xs : List Value} (h : w.ownsRow base e size v n xs) (hb : base' ≤ base) : w.ownsRow base' e size v n xs := by
  refine ⟨h.1, h.2.imp_right ?_⟩
  rintro ⟨g, cap, cur, h1, h2, h3⟩
  exact ⟨g, cap, cur, h1, by omega, h3⟩

set_option maxHeartbeats 1000000 in
theorem iGroupsOf_any (a : Option Addr) (len cap : Nat) (l : List NestT) (m : Bs) (w : World) (hl : len ≤ maxLen) (hs : SlNest w a len l) (hok : ∀ q ∈ l, NestT.Ok q) (hm : m.size ≤ 1048576) :
    Calls Try.prog 37 #[.slice a len cap, .string m] w fun e w' => (∃ v r, e = .returned v ∧ PGrp l m r ∧ w'.ownsRow w.heap.size 9 1 v r.length (r.map Value.string)) ∧ Below w.heap.size w w' := by
  have q := hide (nestGraph_any a len cap l w hl hs hok)
  have hm' : m.size ≤ maxLen := by unfold maxLen; omega
  clear hs hok hl
  go_enter Try.func37, Try.ntmps37
  go_wp2_with fail
  refine (unhide q).mono ?_
  rintro e w1 ⟨⟨bg, es, tab, rfl, hG, hE, hL⟩, hb1⟩
  have HE := hide hE
  have q2 := hide (turned_any w.heap.size bg 1000 es tab w1 hG hL)
  have B1 := hide hb1
  clear q hG hE hL hb1
  go_wp2_with fail
  refine (unhide q2).mono ?_
  rintro e w2 ⟨⟨bg2, es2, tab2, rfl, hG2, hE2, hL2⟩, hb2⟩
  have HE2 := hide hE2
  have q3 := hide (steps_any w1.heap.size bg2 1000 es2 tab2 m w2 hG2 hL2 hm')
  have B2 := hide (bTr (unhide B1) hb2)
  clear q2 hG2 hE2 hL2 hb2 B1
  go_wp2_with fail
  refine (unhide q3).mono ?_
  rintro e w3 ⟨⟨bl, L, rfl, _, hK, hD⟩, hb3⟩
  have HD := hide (show ∀ b k, L b = some k ↔ Dist (EdG l) b m k from fun b k => by
    rw [hD b k]
    exact (dist_congr (fun x y => (unhide HE2 x y).trans (unhide HE y x))).trans (dist_flip (E := EdG l)))
  have q4 := hide (keysInt_any bl 1000 (intM L) w3 hK (by omega))
  have B3 := hide (bTr (unhide B2) hb3)
  clear q3 hK hD hb3 B2 HE HE2
  go_wp2_with fail
  refine (unhide q4).mono ?_
  rintro e w4 ⟨⟨v, r, rfl, hr, hx, _, ho⟩, hb4⟩
  have FIN := hide (show PGrp l m r ∧ w4.ownsRow w.heap.size 9 1 v r.length (r.map Value.string) from ⟨⟨hr, fun g => by
    rw [hx g, intM_isSome, isSome_iff]
    constructor
    · rintro ⟨_, k, hk⟩; exact ⟨k, (unhide HD g k).1 hk⟩
    · rintro ⟨k, hk⟩
      obtain ⟨c, hc⟩ := dist_first hk
      exact ⟨by have := hc.ok.1; unfold maxLen; omega, k, (unhide HD g k).2 hk⟩⟩, own_base ho (unhide B3).size⟩)
  have B4 := hide (bTr (unhide B3) hb4)
  clear q4 hr hx ho hb4 B3 HD
  go_wp2_with fail
  go_ret
  exact ⟨⟨v, r, rfl, unhide FIN⟩, unhide B4⟩

set_option maxHeartbeats 1000000 in
theorem iMembersOf_any (a : Option Addr) (len cap : Nat) (l : List NestT) (m : Bs) (w : World) (hl : len ≤ maxLen) (hs : SlNest w a len l) (hok : ∀ q ∈ l, NestT.Ok q) (hm : m.size ≤ 1048576) :
    Calls Try.prog 32 #[.slice a len cap, .string m] w fun e w' => (∃ v r, e = .returned v ∧ PMem l m r ∧ w'.ownsRow w.heap.size 9 1 v r.length (r.map Value.string)) ∧ Below w.heap.size w w' := by
  have q := hide (nestGraph_any a len cap l w hl hs hok)
  have hm' : m.size ≤ maxLen := by unfold maxLen; omega
  clear hs hok hl
  go_enter Try.func32, Try.ntmps32
  go_wp2_with fail
  refine (unhide q).mono ?_
  rintro e w2 ⟨⟨bg, es, tab, rfl, hG, hE, hL⟩, hb1⟩
  have HE := hide hE
  have q3 := hide (steps_any w.heap.size bg 1000 es tab m w2 hG hL hm')
  have B2 := hide hb1
  clear q hG hE hL hb1
  go_wp2_with fail
  refine (unhide q3).mono ?_
  rintro e w3 ⟨⟨bl, L, rfl, _, hK, hD⟩, hb3⟩
  have HD := hide (show ∀ b k, L b = some k ↔ Dist (EdG l) m b k from fun b k => by
    rw [hD b k]
    exact dist_congr (fun x y => unhide HE x y))
  have q4 := hide (keysInt_any bl 1000 (intM L) w3 hK (by omega))
  have B3 := hide (bTr (unhide B2) hb3)
  clear q3 hK hD hb3 B2 HE
  go_wp2_with fail
  refine (unhide q4).mono ?_
  rintro e w4 ⟨⟨v, r, rfl, hr, hx, hn, ho⟩, hb4⟩
  have HX := hide hx
  have HR := hide hr
  have q5 := hide (deleteGrp_any isGrp w3.heap.size w3 w4 hb4 hb4.size v r ho (by omega) (fun x h w' _ => isGroup_any x ((hx x).1 h).1 w'))
  clear q4 hr hx ho hb4 hn
  go_wp2_with fail
  refine (unhide q5).mono ?_
  rintro e w5 ⟨⟨v', rfl, ho⟩, hb5⟩
  have FIN := hide (show PMem l m (r.filter fun x => !isGrp x) ∧ w5.ownsRow w.heap.size 9 1 v' (r.filter fun x => !isGrp x).length ((r.filter fun x => !isGrp x).map Value.string) from ⟨⟨(unhide HR).filter _, fun g => by
    rw [List.mem_filter, unhide HX g, intM_isSome, isSome_iff]
    constructor
    · rintro ⟨⟨_, k, hk⟩, hg⟩; exact ⟨⟨k, (unhide HD g k).1 hk⟩, by simpa using hg⟩
    · rintro ⟨⟨k, hk⟩, hg⟩
      obtain ⟨c, hc⟩ := dist_last hk
      exact ⟨⟨by have := hc.ok.2; unfold maxLen; omega, k, (unhide HD g k).2 hk⟩, by rw [hg]; rfl⟩⟩, own_base ho (unhide B3).size⟩)
  have B5 := hide (bTr (unhide B3) hb5)
  clear q5 ho hb5 B3 HD HR HX
  go_wp2_with fail
  go_ret
  exact ⟨⟨v', _, rfl, unhide FIN⟩, unhide B5⟩

/-- Whether node lies on no loop. -/
noncomputable def noLoop (es : List (Bs × Bs)) (x : Bs) : Bool := @decide (¬ ∃ k, Dist (fun x y => (x, y) ∈ es) x x k) (Classical.propDecidable _)
theorem noLoop_yes {es : List (Bs × Bs)} {x : Bs} : noLoop es x = true ↔ ¬ ∃ k, Dist (fun x y => (x, y) ∈ es) x x k := by
  unfold noLoop
  exact @decide_eq_true_iff _ (Classical.propDecidable _)
theorem noLoop_no {es : List (Bs × Bs)} {x : Bs} : noLoop es x = false ↔ ∃ k, Dist (fun x y => (x, y) ∈ es) x x k := by
  have := noLoop_yes (es := es) (x := x)
  constructor
  · intro h
    exact Classical.byContradiction fun hn => by rw [this.2 hn] at h; cases h
  · intro h
    cases hx : noLoop es x
    · rfl
    · exact absurd h (this.1 hx)

set_option maxHeartbeats 1000000 in
theorem loopFn_any (lo bg n bx : Nat) (es : List (Bs × Bs)) (tab : Bs → Option Nat) (x : Bs) (w : World) (hG : GM w lo bg n es tab) (hes : es.length ≤ 200) (hx : x.size ≤ maxLen) (hc : w.cell? ⟨bx, 0, none⟩ = some (.map (some bg))) :
    Calls Try.prog 95 #[.string x, .pointer (some ⟨bx, 0, none⟩)] w fun e w' => e = .returned (.bool (noLoop es x)) ∧ Below w.heap.size w w' := by
  have q := hide (steps_any lo bg n es tab x w hG hes hx)
  clear hG
  go_enter Try.func95, Try.ntmps95
  go_wp2_with fail
  refine (unhide q).mono ?_
  rintro e w1 ⟨⟨bl, L, rfl, _, hK, hD⟩, hb1⟩
  have HK := hide hK
  have B1 := hide hb1
  clear hK hb1 q hc
  cases hL : L x with
  | none =>
    have el := hide (show (intM L x).getD (.int .i64 0) = .int .i64 0 by simp [intM, hL])
    have en := hide (show noLoop es x = true from by
      rw [noLoop_yes]
      rintro ⟨k, hk⟩
      have := (hD x k).2 hk
      rw [hL] at this; cases this)
    clear hD hL
    go_wp2_with (at_lookup; refine wpList_get_km _ kStr rfl _ _ _ rfl _ Try.underlying63 (zeroInt _) bl 1000 _ rfl (unhide HK) x rfl hx _ (unhide el) ?_)
    go_ret
    exact ⟨ret_bool (unhide en).symm, unhide B1⟩
  | some k =>
    have el := hide (show (intM L x).getD (.int .i64 0) = .int .i64 (k : Int) by simp [intM, hL])
    have hd := (hD x k).1 hL
    have k1 := hd.1
    have en := hide (show noLoop es x = false from by
      rw [noLoop_no]
      exact ⟨k, hd⟩)
    have dk : ((k : Int) == 0) = false := by simp; omega
    clear hD hL hd
    go_wp2_with (at_lookup; refine wpList_get_km _ kStr rfl _ _ _ rfl _ Try.underlying63 (zeroInt _) bl 1000 _ rfl (unhide HK) x rfl hx _ (unhide el) ?_)
    go_ret
    exact ⟨ret_bool (unhide en).symm, unhide B1⟩

set_option maxHeartbeats 1000000 in
theorem iLoops_any (a : Option Addr) (len cap : Nat) (l : List NestT) (w : World) (hl : len ≤ maxLen) (hs : SlNest w a len l) (hok : ∀ q ∈ l, NestT.Ok q) :
    Calls Try.prog 41 #[.slice a len cap] w fun e w' => (∃ v r, e = .returned v ∧ PLoo l r ∧ w'.ownsRow w.heap.size 9 1 v r.length (r.map Value.string)) ∧ Below w.heap.size w w' := by
  have q := hide (nestGraph_any a len cap l w hl hs hok)
  clear hs hok hl
  have qL : Hid (∀ (bg : Nat) (es : List (Bs × Bs)) (tab : Bs → Option Nat) (w1 : World), GM w1 w.heap.size bg 1000 es tab → es.length ≤ 200 → Calls Try.prog 73 #[.map (some bg)] w1 fun e w' => (∃ v r, e = .returned v ∧ (RisS r ∧ ∀ g, g ∈ r ↔ g.size ≤ maxLen ∧ (∃ x, (g, x) ∈ es) ∧ noLoop es g = false) ∧ w'.ownsRow w1.heap.size 9 1 v r.length (r.map Value.string)) ∧ Below w1.heap.size w1 w') := hide (by
    intro bg es tab w1 hG hes
    obtain ⟨W, hW⟩ : ∃ W, W = w1.alloc (.cells #[.map (some bg)] 60) := ⟨_, rfl⟩
    have g1 : w1.grownBy W none := by rw [hW]; exact World.grownBy_alloc _ _ _
    have HG := hide (hG.grown g1 (fun r h => by cases h))
    have HR := hide (show RowIs W w1.heap.size #[.map (some bg)] 60 by rw [hW]; exact RowIs.new _ _ _)
    have B0 := hide (show Below w1.heap.size w1 W by rw [hW]; exact bAl (Below.refl _ _) _)
    have HW := hide hW.symm
    have q1 := hide (keysGra_any bg 1000 (topM tab) W (unhide HG).top (by omega))
    clear hG hW g1
    have c0 := (unhide HR).at (o := 0) (v := .map (some bg)) rfl
    go_enter Try.func73, Try.ntmps73
    go_wp2_with fail
    rw [unhide HW]
    refine (unhide q1).mono ?_
    rintro e w2 ⟨⟨v, r, rfl, hr, hx, hn, ho⟩, hb2⟩
    have HX := hide hx
    have HRr := hide hr
    have q5 := hide (deleteLoop_any w1.heap.size (noLoop es) W.heap.size W w2 hb2 hb2.size v r ho (by omega) (fun x h w' hB => by
      have hz := (unhide HR).lt
      exact loopFn_any w.heap.size bg 1000 w1.heap.size es tab x w' ((unhide HG).keepB hB (Nat.le_refl _)) hes ((hx x).1 h).1 (by
        rw [hB.cell hz]; exact c0)))
    have HT := hide (unhide HG).has
    clear q1 hr hx ho hb2 hn c0 HR HW
    go_wp2_with fail
    refine (unhide q5).mono ?_
    rintro e w5 ⟨⟨v', rfl, ho⟩, hb5⟩
    have FIN := hide (show (RisS (r.filter fun x => !noLoop es x) ∧ ∀ g, g ∈ (r.filter fun x => !noLoop es x) ↔ g.size ≤ maxLen ∧ (∃ x, (g, x) ∈ es) ∧ noLoop es g = false) ∧ w5.ownsRow w1.heap.size 9 1 v' (r.filter fun x => !noLoop es x).length ((r.filter fun x => !noLoop es x).map Value.string) from ⟨⟨(unhide HRr).filter _, fun g => by
      rw [List.mem_filter, unhide HX g, ← unhide HT g]
      have e1 : (topM tab g).isSome = (tab g).isSome := by unfold topM; simp
      rw [e1]
      cases noLoop es g <;> simp⟩, own_base ho (unhide B0).size⟩)
    have B5 := hide (bTr (unhide B0) hb5)
    clear q5 ho hb5 B0 HX HRr
    go_wp2_with fail
    go_ret
    exact ⟨⟨v', _, rfl, unhide FIN⟩, unhide B5⟩)
  go_enter Try.func41, Try.ntmps41
  go_wp2_with fail
  refine (unhide q).mono ?_
  rintro e w1 ⟨⟨bg, es, tab, rfl, hG, hE, hL⟩, hb1⟩
  have HE := hide hE
  have B1 := hide hb1
  have q2 := hide (unhide qL bg es tab w1 hG hL)
  clear q qL hG hE hL hb1
  go_wp2_with fail
  refine (unhide q2).mono ?_
  rintro e w2 ⟨⟨v, r, rfl, ⟨hr, hx⟩, ho⟩, hb2⟩
  have FIN := hide (show PLoo l r ∧ w2.ownsRow w.heap.size 9 1 v r.length (r.map Value.string) from ⟨⟨hr, fun g => by
    rw [hx g]
    have hd : ∀ k, Dist (fun x y => (x, y) ∈ es) g g k ↔ Dist (EdG l) g g k := fun k => dist_congr (fun x y => unhide HE x y)
    constructor
    · rintro ⟨_, _, h⟩
      obtain ⟨k, hk⟩ := noLoop_no.1 h
      exact ⟨k, (hd k).1 hk⟩
    · rintro ⟨k, hk⟩
      obtain ⟨c, hc⟩ := dist_first hk
      refine ⟨by have := hc.ok.1; unfold maxLen; omega, ⟨c, (unhide HE g c).2 hc⟩, ?_⟩
      exact noLoop_no.2 ⟨k, (hd k).2 hk⟩⟩, own_base ho (unhide B1).size⟩)
  have B2 := hide (bTr (unhide B1) hb2)
  clear q2 hr hx ho hb2 B1 HE
  go_wp2_with fail
  go_ret
  exact ⟨⟨v, r, rfl, unhide FIN⟩, unhide B2⟩
end Go.Proofs.Ytakjnbdjjeccoaa
