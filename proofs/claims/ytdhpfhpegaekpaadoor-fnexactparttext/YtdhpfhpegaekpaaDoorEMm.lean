/- spec.l20Find, PartText. -/
import Derived.Test.YtdhpfhpegaekpaaDoorEMk
namespace Go.Proofs.YtdhpfhpegaekpaaDoor.V
set_option linter.unusedSimpArgs false
set_option linter.unusedVariables false
open Go.RowKit

theorem finds_app (a : Int) : ∀ (l1 l2 : List DT), DT.finds a (l1 ++ l2) = (DT.finds a l1).or (DT.finds a l2)
  | [], l2 => by simp [DT.finds]
  | t :: l1, l2 => by rw [List.cons_append, DT.finds, DT.finds, finds_app a l1 l2, Option.or_assoc]
def FdO (w' : World) (lo : Nat) (a : Int) (t : DT) (e : Ending) : Prop :=
  (t.find a = none ∧ e = .returned (.tuple #[agg7 zX 0 (.slice none 0 0), .bool false])) ∨
  ∃ x s r, t.find a = some x ∧ e = .returned (.tuple #[agg7 x.n x.at s, .bool true]) ∧ TrD r w' lo s x
def FdS (r lo : Nat) (w0 : World) : Prop := ∀ (t : DT) (s : Value) (a : Int) (w : World), TrD r w0 lo s t → Below w0.heap.size w0 w →
  Calls Tryd.prog 18 #[agg7 t.n t.at s, .int .i64 a] w fun e w' => FdO w0 lo a t e ∧ Below w.heap.size w w'
theorem trD_keep {r lo : Nat} {w w' : World} {s : Value} {t : DT} (h : TrD r w lo s t) (hb : Below w.heap.size w w') : TrD r w' lo s t :=
  h.keptD ⟨hb.size, fun c _ h => hb.block c h⟩
set_option maxRecDepth 100000 in
set_option maxHeartbeats 16000000 in
theorem find_step (r lo : Nat) (w0 : World) (IH : FdS r lo w0) : FdS (r + 1) lo w0 := by
  intro t s a w ht hw0
  have H0 := hide hw0
  clear hw0
  have TR0 := hide ht
  obtain ⟨x, j, ks⟩ := t
  obtain ⟨h4, hk20, sa, cap, rfl, hb⟩ := ht
  simp only [DT.n, DT.at, DT.kids] at h4 hk20 hb ⊢
  obtain ⟨⟨n0, n1, n2, n3, n4⟩, ⟨a2, s2, p2⟩, ⟨a3, s3, p3⟩⟩ := x
  simp only at h4
  subst h4
  have HBK := hide hb
  obtain ⟨W1, hW1⟩ : ∃ W, W = (w.alloc (.cells #[.string n0, .string n1, .slice a2 s2 p2, .slice a3 s3 p3, .int .i64 (ks.length : Int), .int .i64 (j : Int), .slice sa ks.length cap] 38)).alloc (.cells #[.string ⟨#[]⟩, .string ⟨#[]⟩, .slice none 0 0, .slice none 0 0, .int .i64 0, .int .i64 0, .slice none 0 0] 38) := ⟨_, rfl⟩
  have b1 : Below w.heap.size w W1 := by rw [hW1]; exact bAl (bAl (Below.refl _ _) _) _
  have R1 := hide (show RowIs W1 w.heap.size #[.string n0, .string n1, .slice a2 s2 p2, .slice a3 s3 p3, .int .i64 (ks.length : Int), .int .i64 (j : Int), .slice sa ks.length cap] 38 by rw [hW1]; exact (RowIs.new _ _ _).keep (bAl (Below.refl _ _) _))
  have Z1 := hide (show RowIs W1 (w.heap.size + 1) #[.string ⟨#[]⟩, .string ⟨#[]⟩, .slice none 0 0, .slice none 0 0, .int .i64 0, .int .i64 0, .slice none 0 0] 38 by
    rw [hW1]
    have := RowIs.new (w.alloc (.cells #[.string n0, .string n1, .slice a2 s2 p2, .slice a3 s3 p3, .int .i64 (ks.length : Int), .int .i64 (j : Int), .slice sa ks.length cap] 38)) #[.string ⟨#[]⟩, .string ⟨#[]⟩, .slice none 0 0, .slice none 0 0, .int .i64 0, .int .i64 0, .slice none 0 0] 38
    simpa using this)
  have HW1 := hide hW1.symm
  have B1 := hide b1
  clear hW1 b1 hb
  have e5 := (unhide R1).at (o := 5) (v := .int .i64 (j : Int)) rfl
  have ez := (unhide R1).lt
  by_cases hja : (j : Int) = a
  · subst hja
    have e0 := (unhide R1).at (o := 0) (v := .string n0) rfl
    have e1 := (unhide R1).at (o := 1) (v := .string n1) rfl
    have e2 := (unhide R1).at (o := 2) (v := .slice a2 s2 p2) rfl
    have e3 := (unhide R1).at (o := 3) (v := .slice a3 s3 p3) rfl
    have e4 := (unhide R1).at (o := 4) (v := .int .i64 (ks.length : Int)) rfl
    have e6 := (unhide R1).at (o := 6) (v := .slice sa ks.length cap) rfl
    have k0 := (unhide Z1).at (o := 0) (v := .string ⟨#[]⟩) rfl
    have k1 := (unhide Z1).at (o := 1) (v := .string ⟨#[]⟩) rfl
    have k2 := (unhide Z1).at (o := 2) (v := .slice none 0 0) rfl
    have k3 := (unhide Z1).at (o := 3) (v := .slice none 0 0) rfl
    have k4 := (unhide Z1).at (o := 4) (v := .int .i64 0) rfl
    have k5 := (unhide Z1).at (o := 5) (v := .int .i64 0) rfl
    have k6 := (unhide Z1).at (o := 6) (v := .slice none 0 0) rfl
    have y0 := (unhide Z1).froz 0
    have y1 := (unhide Z1).froz 1
    have y2 := (unhide Z1).froz 2
    have y3 := (unhide Z1).froz 3
    have y4 := (unhide Z1).froz 4
    have y5 := (unhide Z1).froz 5
    have y6 := (unhide Z1).froz 6
    have kz := (unhide Z1).lt
    go_enter Tryd.func18, Tryd.ntmps18
    go_upto_region 1 with fail
    refine wp_worldD (unhide HW1) ?_
    go_wp2_with fail
    refine bodyPost_ret (v := .tuple #[agg7 ⟨⟨n0, n1, n2, n3, (ks.length : Int)⟩, ⟨a2, s2, p2⟩, ⟨a3, s3, p3⟩⟩ j (.slice sa ks.length cap), .bool true]) (by simp [results, Tryd.results18, go_sem, k0, k1, k2, k3, k4, k5, k6]) rfl ⟨.inr ⟨.node ⟨⟨n0, n1, n2, n3, (ks.length : Int)⟩, ⟨a2, s2, p2⟩, ⟨a3, s3, p3⟩⟩ j ks, .slice sa ks.length cap, r + 1, by simp only [DT.find, if_true], rfl, ?_⟩, ?_⟩
    · exact unhide TR0
    · (repeat (refine Below.setCell ?_ (by simp) _))
      exact unhide B1
  · have HJ := hide hja
    have d0 : ((j : Int) == a) = false := beq_eq_false_iff_ne.2 hja
    have e6 := (unhide R1).at (o := 6) (v := .slice sa ks.length cap) rfl
    clear hja
    go_enter Tryd.func18, Tryd.ntmps18
    go_upto_region 1 with fail
    refine wp_worldD (unhide HW1) ?_
    clear HW1
    go_wp2_with fail
    go_loopw [18] (fun q w' => ∃ i : Nat, i ≤ ks.length ∧ q = .int .i64 i ∧ Hid (RowIs w' w.heap.size #[.string n0, .string n1, .slice a2 s2 p2, .slice a3 s3 p3, .int .i64 (ks.length : Int), .int .i64 (j : Int), .slice sa ks.length cap] 38) ∧ Hid (RowIs w' (w.heap.size + 1) #[.string ⟨#[]⟩, .string ⟨#[]⟩, .slice none 0 0, .slice none 0 0, .int .i64 0, .int .i64 0, .slice none 0 0] 38) ∧ Hid (Below w.heap.size w w') ∧ Hid (DT.finds a (ks.take i) = none)) (fun q _ => ks.length - (Go.RowKit.intOf q).toNat)
    case atStart => exact ⟨0, Nat.zero_le _, rfl, R1, Z1, B1, hide (by simp [DT.finds])⟩
    case round =>
      obtain ⟨i, hi, rfl, HX, HZ, HW, HF⟩ := hrel
      clear R1 Z1 B1 e5 ez e6
      by_cases hlt : i < ks.length
      · have hkt : ks.take (i + 1) = ks.take i ++ [ks[i]] := by rw [List.take_succ_eq_append_getElem hlt]
        rcases unhide HBK with hz | ⟨bk, rfl, hlo, hbz, hat⟩
        · rw [hz] at hlt; simp at hlt
        obtain ⟨s', h7, htr⟩ := hat i hlt
        obtain ⟨ta, tn, tc, rfl⟩ : ∃ a n c, s' = .slice a n c := by
          cases r with
          | zero => exact htr.elim
          | succ r => obtain ⟨_, _, a, cap, rfl, _⟩ := htr; exact ⟨_, _, _, rfl⟩
        have hks : ks = ks.take i ++ ks[i] :: ks.drop (i + 1) := by rw [← List.drop_eq_getElem_cons hlt, List.take_append_drop]
        obtain ⟨t1, ht1⟩ : ∃ t, ks[i] = t := ⟨_, rfl⟩
        rw [ht1] at hkt h7 htr hks
        have HFN := hide (show t1.find a = none → DT.finds a (ks.take (i + 1)) = none from fun h => by
          rw [hkt, finds_app, unhide HF]; simp [DT.finds, h])
        have HFS := hide (show ∀ y, t1.find a = some y → DT.finds a ks = some y from fun y h => by
          rw [hks, finds_app, unhide HF]; simp [DT.finds, h])
        have h7' := h7.keptD (lo := 0) ⟨(bTr (unhide H0) (unhide HW)).size, fun c _ h => (bTr (unhide H0) (unhide HW)).block c h⟩ (Nat.zero_le _) hbz
        replace h7' : At7 wr bk (i * 7) t1.n t1.at (.slice ta tn tc) := h7'
        have hbz' : bk < wr.heap.size := Nat.lt_of_lt_of_le hbz (bTr (unhide H0) (unhide HW)).size
        have HT1 := hide htr
        obtain ⟨k1, hk1⟩ : ∃ k, t1.at = k := ⟨_, rfl⟩
        obtain ⟨⟨⟨m0, m1, m2, m3, m4⟩, ⟨b2, u2, q2⟩, ⟨b3, u3, q3⟩⟩, hx1⟩ : ∃ x, t1.n = x := ⟨_, rfl⟩
        rw [hx1, hk1] at h7'
        obtain ⟨c0, c1, c2, c3, c4, c5, c6⟩ := h7'
        simp only at c0 c1 c2 c3 c4 c5 c6
        have q := hide (fun (o : Obj) => IH t1 (.slice ta tn tc) a (wr.alloc o) (unhide HT1) (bAl (bTr (unhide H0) (unhide HW)) o))
        rw [hx1, hk1] at q
        simp only [agg7] at q
        clear hkt h7 htr hks ht1 hk1 hx1
        go_wp2_with fail
        refine (unhide q _).mono ?_
        rintro e w5 ⟨(⟨hf, rfl⟩ | ⟨y, s, r', hf, rfl, htr⟩), hb5⟩
        · have X5 := hide (((unhide HX).keep (bAl (Below.refl _ _) _)).keep hb5)
          have Z5 := hide (((unhide HZ).keep (bAl (Below.refl _ _) _)).keep hb5)
          have W5 := hide (bTr (bAl (unhide HW) _) hb5)
          have HF5 := hide (unhide HFN hf)
          clear hb5 HX HZ HW q hf
          go_wp2_with fail
          exact ⟨⟨i + 1, by omega, by rfl, hide ((unhide X5).keep (bAl (Below.refl _ _) _)), hide ((unhide Z5).keep (bAl (Below.refl _ _) _)), hide (bAl (unhide W5) _), HF5⟩, by simp [Go.RowKit.intOf]; omega⟩
        · have X5 := hide (((unhide HX).keep (bAl (Below.refl _ _) _)).keep hb5)
          have Z5 := hide (((unhide HZ).keep (bAl (Below.refl _ _) _)).keep hb5)
          have W5 := hide (bTr (bAl (unhide HW) _) hb5)
          have HF5 := hide (unhide HFS _ hf)
          have HTR := hide htr
          obtain ⟨va, vn, vc, rfl⟩ : ∃ a n c, s = .slice a n c := by
            cases r' with
            | zero => exact htr.elim
            | succ r => obtain ⟨_, _, a, cap, rfl, _⟩ := htr; exact ⟨_, _, _, rfl⟩
          clear hb5 HX HZ HW q hf htr
          obtain ⟨kq, hk2⟩ : ∃ k, y.at = k := ⟨_, rfl⟩
          obtain ⟨⟨⟨l0, l1, l2, l3, l4⟩, ⟨d2, z2, g2⟩, ⟨d3, z3, g3⟩⟩, hx2⟩ : ∃ x, y.n = x := ⟨_, rfl⟩
          rw [hx2, hk2]
          have HX2 := hide hx2
          have HK2 := hide hk2
          clear hx2 hk2
          obtain ⟨W6, hW6⟩ : ∃ W, W = w5.alloc (.cells #[.string l0, .string l1, .slice d2 z2 g2, .slice d3 z3 g3, .int .i64 l4, .int .i64 (kq : Int), .slice va vn vc] 38) := ⟨_, rfl⟩
          have b6 : Below w5.heap.size w5 W6 := by rw [hW6]; exact bAl (Below.refl _ _) _
          have K6 := hide (show RowIs W6 w5.heap.size #[.string l0, .string l1, .slice d2 z2 g2, .slice d3 z3 g3, .int .i64 l4, .int .i64 (kq : Int), .slice va vn vc] 38 by rw [hW6]; exact RowIs.new _ _ _)
          have Z6 := hide ((unhide Z5).keep b6)
          have B6 := hide (bTr (unhide W5) b6)
          have TR6 := hide (unhide HTR)
          have HW6 := hide hW6.symm
          clear hW6 b6 X5 Z5 W5 HTR
          go_upto_region 8 with fail
          refine wp_worldD (unhide HW6) ?_
          clear HW6
          have m0 := (unhide K6).at (o := 0) (v := .string l0) rfl
          have m1 := (unhide K6).at (o := 1) (v := .string l1) rfl
          have m2 := (unhide K6).at (o := 2) (v := .slice d2 z2 g2) rfl
          have m3 := (unhide K6).at (o := 3) (v := .slice d3 z3 g3) rfl
          have m4 := (unhide K6).at (o := 4) (v := .int .i64 l4) rfl
          have m5 := (unhide K6).at (o := 5) (v := .int .i64 (kq : Int)) rfl
          have m6 := (unhide K6).at (o := 6) (v := .slice va vn vc) rfl
          have mz := (unhide K6).lt
          have k0 := (unhide Z6).at (o := 0) (v := .string ⟨#[]⟩) rfl
          have k1 := (unhide Z6).at (o := 1) (v := .string ⟨#[]⟩) rfl
          have k2 := (unhide Z6).at (o := 2) (v := .slice none 0 0) rfl
          have k3 := (unhide Z6).at (o := 3) (v := .slice none 0 0) rfl
          have k4 := (unhide Z6).at (o := 4) (v := .int .i64 0) rfl
          have k5 := (unhide Z6).at (o := 5) (v := .int .i64 0) rfl
          have k6 := (unhide Z6).at (o := 6) (v := .slice none 0 0) rfl
          have y0 := (unhide Z6).froz 0
          have y1 := (unhide Z6).froz 1
          have y2 := (unhide Z6).froz 2
          have y3 := (unhide Z6).froz 3
          have y4 := (unhide Z6).froz 4
          have y5 := (unhide Z6).froz 5
          have y6 := (unhide Z6).froz 6
          have kz := (unhide Z6).lt
          go_wp2_with fail
          have AN := hide (show DT.find a (.node ⟨⟨n0, n1, n2, n3, (ks.length : Int)⟩, ⟨a2, s2, p2⟩, ⟨a3, s3, p3⟩⟩ j ks) = some y from by
            simp only [DT.find]
            rw [if_neg (unhide HJ)]; exact unhide HF5)
          refine bodyPost_ret (v := .tuple #[agg7 ⟨⟨l0, l1, l2, l3, l4⟩, ⟨d2, z2, g2⟩, ⟨d3, z3, g3⟩⟩ kq (.slice va vn vc), .bool true]) (by simp [results, Tryd.results18, go_sem, k0, k1, k2, k3, k4, k5, k6]) rfl ⟨.inr ⟨y, .slice va vn vc, r', unhide AN, by rw [unhide HX2, unhide HK2], ?_⟩, ?_⟩
          · exact unhide TR6
          · (repeat (refine Below.setCell ?_ (by simp) _))
            exact unhide B6
      · have hi' : i = ks.length := by omega
        subst hi'
        have NO := hide (show DT.find a (.node ⟨⟨n0, n1, n2, n3, (ks.length : Int)⟩, ⟨a2, s2, p2⟩, ⟨a3, s3, p3⟩⟩ j ks) = none from by
          have := unhide HF
          rw [List.take_length] at this
          simp only [DT.find, this]
          rw [if_neg (unhide HJ)])
        have k0 := (unhide HZ).at (o := 0) (v := .string ⟨#[]⟩) rfl
        have k1 := (unhide HZ).at (o := 1) (v := .string ⟨#[]⟩) rfl
        have k2 := (unhide HZ).at (o := 2) (v := .slice none 0 0) rfl
        have k3 := (unhide HZ).at (o := 3) (v := .slice none 0 0) rfl
        have k4 := (unhide HZ).at (o := 4) (v := .int .i64 0) rfl
        have k5 := (unhide HZ).at (o := 5) (v := .int .i64 0) rfl
        have k6 := (unhide HZ).at (o := 6) (v := .slice none 0 0) rfl
        have y0 := (unhide HZ).froz 0
        have y1 := (unhide HZ).froz 1
        have y2 := (unhide HZ).froz 2
        have y3 := (unhide HZ).froz 3
        have y4 := (unhide HZ).froz 4
        have y5 := (unhide HZ).froz 5
        have y6 := (unhide HZ).froz 6
        have kz := (unhide HZ).lt
        go_wp2_with fail
        refine bodyPost_ret (v := .tuple #[agg7 zX 0 (.slice none 0 0), .bool false]) (by simp [results, Tryd.results18, go_sem, k0, k1, k2, k3, k4, k5, k6]) rfl ⟨.inl ⟨unhide NO, rfl⟩, ?_⟩
        (repeat (refine Below.setCell ?_ (by simp) _))
        exact unhide HW
theorem find_any : ∀ (r lo : Nat) (w0 : World), FdS r lo w0
  | 0, lo, w0 => fun t s a w h => h.elim
  | r + 1, lo, w0 => find_step r lo w0 (find_any r lo w0)
theorem fd_form {w0 : World} {lo : Nat} {a : Int} {t : DT} {e : Ending} (h : FdO w0 lo a t e) : ∃ X k sa sn sc b, e = .returned (.tuple #[agg7 X k (.slice sa sn sc), .bool b]) ∧ (b = true → ∃ x r, t.find a = some x ∧ x.n = X ∧ x.at = k ∧ TrD r w0 lo (.slice sa sn sc) x) ∧ (b = false → t.find a = none) := by
  rcases h with ⟨hf, rfl⟩ | ⟨x, s, r, hf, rfl, htr⟩
  · exact ⟨zX, 0, none, 0, 0, false, rfl, fun h => (by cases h), fun _ => hf⟩
  · obtain ⟨ta, tn, tc, rfl⟩ : ∃ a n c, s = .slice a n c := by
      cases r with
      | zero => exact htr.elim
      | succ r => obtain ⟨_, _, a, cap, rfl, _⟩ := htr; exact ⟨_, _, _, rfl⟩
    exact ⟨x.n, x.at, ta, tn, tc, true, rfl, fun _ => ⟨x, r, hf, rfl, rfl, htr⟩, fun h => (by cases h)⟩
set_option maxRecDepth 100000 in
set_option maxHeartbeats 8000000 in
theorem sPartText_n (h : Hd) (xs : List ElemT) (a : Int) (w : World) (hn : ∀ x ∈ xs, ElemN x) (hl : xs.length ≤ maxLen) (hs : SqElem w 0 h xs) :
    Calls Tryd.prog 10 #[.slice h.a h.len h.cap, .int .i64 a] w fun e w' => e = .returned (.string ⟨(partTx xs a).toArray⟩) ∧ Below w.heap.size w w' := by
  obtain ⟨l, rfl, hs⟩ := hs
  have q := hide (l20Tree_any h l w (by simpa using hl) hs (fun x hx => hn _ (List.mem_map.2 ⟨x, hx, rfl⟩)))
  have HS := hide hs
  clear hl hs hn
  go_enter Tryd.func10, Tryd.ntmps10
  go_wp2_with fail
  refine (unhide q).mono ?_
  rintro e w1 ⟨ht, hb1⟩
  have HB := hide hb1
  obtain ⟨t, X, k, sa, sn, sc, g, rfl, hX, hk, htr, hg⟩ : ∃ (t : DT) (X : ElemE) (k : Nat) (sa : Option Addr) (sn sc : Nat) (g : Bool), e = .returned (.tuple #[agg7 X k (.slice sa sn sc), .bool g]) ∧ t.n = X ∧ t.at = k ∧ TrD 12 w1 w.heap.size (.slice sa sn sc) t ∧ (g = true → GDoc (l.map (·.t)) ∧ takeD l 12 0 = some (t, l.length)) ∧ (g = false → ¬ GDoc (l.map (·.t))) := by
    rcases ht with ⟨hg, X, k, sa, sn, sc, rfl, t, h1, h2, h3⟩ | ⟨hg, t, sa, sn, sc, rfl, ht, htr⟩
    · exact ⟨t, X, k, sa, sn, sc, false, rfl, h1, h2, h3, fun h => (by cases h), fun _ => hg⟩
    · exact ⟨t, _, _, sa, sn, sc, true, rfl, rfl, rfl, htr, fun _ => ⟨hg, ht⟩, fun h => (by cases h)⟩
  have HG := hide hg
  have HTR := hide htr
  have qf := hide (fun (o : Obj) => find_any 12 w.heap.size w1 t (.slice sa sn sc) a (w1.alloc o) htr (bAl (Below.refl _ _) o))
  rw [hX, hk] at qf
  clear q hb1 hg ht htr hX hk
  obtain ⟨⟨m0, m1, m2, m3, m4⟩, ⟨b2, s2, q2⟩, ⟨b3, s3, q3⟩⟩ := X
  simp only [agg7] at qf ⊢
  go_wp2_with fail
  refine (unhide qf _).mono ?_
  rintro e w3 ⟨hfd, hb3⟩
  obtain ⟨X, k2, ta, tn, tc, b, rfl, hbt, hbf⟩ := fd_form hfd
  have HBT := hide hbt
  have HBF := hide hbf
  have B3 := hide (bTr (bAl (unhide HB) _) hb3)
  have B13 := hide (bTr (bAl (Below.refl w1.heap.size w1) _) hb3)
  clear hfd hb3 hbt hbf qf
  obtain ⟨⟨l0, l1, l2, l3, l4⟩, ⟨d2, z2, g2⟩, ⟨d3, z3, g3⟩⟩ := X
  simp only [agg7]
  cases g with
  | false =>
    have no := hide (show [] = partTx (l.map (·.t)) a from PartIs.eq (.inl ⟨fun h => (unhide HG).2 rfl h.1, rfl⟩))
    cases b
    all_goals (
      go_wp2_with fail
      go_ret
      exact ⟨by rw [← unhide no]; rfl, bAl (unhide B3) _⟩)
  | true =>
    have hG := (unhide HG).1 rfl
    have fnd := (take_find _ _ _ _ hG.2).2
    cases b with
    | false =>
      have no := hide (show [] = partTx (l.map (·.t)) a from PartIs.eq (.inl ⟨fun h => (by
        obtain ⟨x, r, k', h1, _⟩ := fnd.2 a.toNat (Nat.zero_le _) (by have e1 := h.2.2; have e2 := h.2.1; rw [List.length_map] at e1; omega)
        have h0 := unhide HBF rfl
        simp only at h1
        rw [Int.toNat_of_nonneg h.2.1, h0] at h1
        cases h1), rfl⟩))
      clear fnd hG
      go_wp2_with fail
      go_ret
      exact ⟨by rw [← unhide no]; rfl, bAl (unhide B3) _⟩
    | true =>
      obtain ⟨x, r, hf, hx, hxk, htr⟩ := unhide HBT rfl
      have hin : ∃ j : Nat, a = (j : Int) ∧ j < l.length := by
        by_cases hr : a < ((0 : Nat) : Int) ∨ (l.length : Int) ≤ a
        · have := fnd.1 a hr
          simp only at this
          rw [hf] at this; cases this
        · exact ⟨a.toNat, by omega, by omega⟩
      obtain ⟨j, rfl, hj⟩ := hin
      obtain ⟨x', r', k', h1, hx'⟩ := fnd.2 j (Nat.zero_le _) hj
      simp only at h1
      rw [hf] at h1
      obtain rfl : x = x' := Option.some.inj h1
      have h60 : l.length ≤ 60 := by simpa using hG.1.1
      have hr : ∀ x ∈ l, RightE x.t := fun x hx => (hG.1.2.1 _ (List.mem_map_of_mem hx)).r
      have hdl := dtx_len hr _ _ _ _ hx'
      have yes := hide (show bnd x.tx = partTx (l.map (·.t)) (j : Int) from PartIs.eq (.inr ⟨hG.1, r', j, k', x.tx, rfl, by simpa using hj, take_txD _ _ _ _ hx', rfl⟩))
      have hlen : x.tx.length ≤ 720000 := by rw [← (take_in _ _ _ _ hx').2]; omega
      have hok := hide (fun (o : Obj) => all_ok (w := w3.alloc o) hr (fun x hx => (((unhide HS).keep (bAl (unhide B3) o)).2.2 x hx)) (take_in _ _ _ _ hx').1)
      have qt := hide (fun (o : Obj) => text_any r w.heap.size x (.slice ta tn tc) (w3.alloc o) (trD_keep htr (bAl (unhide B13) o)) (unhide hok o) hlen)
      have qb := hide (fun w => bound_any ⟨x.tx.toArray⟩ w (by rw [Lib.size_eq]; simpa using hlen))
      rw [hx, hxk] at qt
      simp only [agg7] at qt
      clear hf hx hxk htr hG fnd h60 hr hdl hlen hok h1 hx' HBT HBF HG HTR HS HB B13 hj
      go_wp2_with fail
      refine (unhide qt _).mono ?_
      rintro e w5 ⟨rfl, hb5⟩
      have B5 := hide (bTr (bAl (unhide B3) _) hb5)
      clear hb5 qt B3
      go_wp2_with fail
      refine (unhide qb _).mono ?_
      rintro e w6 ⟨rfl, rfl⟩
      clear qb
      go_wp2_with fail
      go_ret
      refine ⟨?_, unhide B5⟩
      rw [← unhide yes]
      rfl
end Go.Proofs.YtdhpfhpegaekpaaDoor.V
