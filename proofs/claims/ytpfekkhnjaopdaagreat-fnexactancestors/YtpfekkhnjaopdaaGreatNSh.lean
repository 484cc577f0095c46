/- spec.l12Matches, HeadMatches. -/
import Derived.Test.YtpfekkhnjaopdaaGreatNUp
import Derived.Test.YtpfekkhnjaopdaaGreatZTs
import Derived.BigQuiet
import Derived.Deep.RegionHeld3
namespace Go.Proofs.YtpfekkhnjaopdaaGreat.V
set_option linter.unusedSimpArgs false
set_option linter.unusedVariables false
open Go.RowKit Go.Maps

set_option maxRecDepth 20000 in
set_option maxHeartbeats 4000000 in
theorem l12Matches_n (hd : Hd) (lt : List ThingE) (h : HeadT) (a : AtomT) (w : World) (hg : GThs (lt.map (·.t))) (hn : ∀ e ∈ lt, ThingN e.t) (hl : lt.length ≤ maxLen) (hs : SqThingE w 0 hd lt) (ha : a.Ok) :
    Calls Tryz.prog 37 #[.slice hd.a hd.len hd.cap, hAgg h, encA a] w fun r w' => RetB r (HMat (parL (lt.map (·.t))) h a) ∧ Below w.heap.size w w' := by
  have q1 := hide (fun (w' : World) (hb : Below w.heap.size w w') => l12Up_n hd lt a w' hg hn hl (hs.keep hb) ha)
  obtain ⟨ax, an, at', ay⟩ := a
  obtain ⟨k, x, n, t, y, ty⟩ := h
  unfold encA at q1 ⊢
  unfold HMat hAt
  simp only at q1 ⊢
  generalize parL (lt.map (·.t)) = P at q1 ⊢
  clear hg hn hl hs ha
  by_cases k1 : k = 1
  · subst k1
    clear q1
    go_enter Tryz.func37, Tryz.ntmps37
    go_wp2_with fail
    go_ret
    exact ⟨retB (b := true) (by simp), bAl (bAl (Below.refl _ _) _) _⟩
  have d1 : (k == 1) = false := by simpa using k1
  rw [if_neg k1]
  by_cases k2 : k = 2
  · subst k2
    clear q1 k1 d1
    rw [if_pos rfl]
    by_cases e0 : x = ax
    case neg =>
      have d : (x == ax) = false := by simpa using e0
      have no : Hid (¬ (⟨ax, an, at', ay⟩ : AtomT) = ⟨x, n, t, y⟩) := hide (fun h => e0 (by have h2 := congrArg AtomT.x h; exact h2.symm))
      clear e0
      go_enter Tryz.func37, Tryz.ntmps37
      go_wp2_with fail
      go_ret
      exact ⟨retB (b := false) ⟨fun h => (by cases h), fun h => absurd h (unhide no)⟩, bAl (bAl (Below.refl _ _) _) _⟩
    subst e0
    by_cases e1 : n = an
    case neg =>
      have d : (n == an) = false := by simpa using e1
      have no : Hid (¬ (⟨x, an, at', ay⟩ : AtomT) = ⟨x, n, t, y⟩) := hide (fun h => e1 (by have h2 := congrArg AtomT.n h; exact h2.symm))
      clear e1
      go_enter Tryz.func37, Tryz.ntmps37
      go_wp2_with fail
      go_ret
      exact ⟨retB (b := false) ⟨fun h => (by cases h), fun h => absurd h (unhide no)⟩, bAl (bAl (Below.refl _ _) _) _⟩
    subst e1
    by_cases e2 : t = at'
    case neg =>
      have d : (ByteArray.toList t == ByteArray.toList at') = false := str_neN e2
      have no : Hid (¬ (⟨x, n, at', ay⟩ : AtomT) = ⟨x, n, t, y⟩) := hide (fun h => e2 (by have h2 := congrArg AtomT.t h; exact h2.symm))
      clear e2
      go_enter Tryz.func37, Tryz.ntmps37
      go_wp2_with fail
      go_ret
      exact ⟨retB (b := false) ⟨fun h => (by cases h), fun h => absurd h (unhide no)⟩, bAl (bAl (Below.refl _ _) _) _⟩
    subst e2
    by_cases e3 : y = ay
    case neg =>
      have d : (ByteArray.toList y == ByteArray.toList ay) = false := str_neN e3
      have no : Hid (¬ (⟨x, n, t, ay⟩ : AtomT) = ⟨x, n, t, y⟩) := hide (fun h => e3 (by have h2 := congrArg AtomT.y h; exact h2.symm))
      clear e3
      go_enter Tryz.func37, Tryz.ntmps37
      go_wp2_with fail
      go_ret
      exact ⟨retB (b := false) ⟨fun h => (by cases h), fun h => absurd h (unhide no)⟩, bAl (bAl (Below.refl _ _) _) _⟩
    subst e3
    go_enter Tryz.func37, Tryz.ntmps37
    go_wp2_with fail
    go_ret
    exact ⟨retB (b := true) (by first | exact ⟨fun _ => rfl, fun _ => rfl⟩ | simp), bAl (bAl (Below.refl _ _) _) _⟩
  have d2 : (k == 2) = false := by simpa using k2
  rw [if_neg k2]
  by_cases k3 : k = 3
  · subst k3
    clear k1 k2 d1 d2
    rw [if_pos rfl]
    obtain ⟨W, hW⟩ : ∃ W, W = (w.alloc (.cells #[.int .i64 3, .int .i64 x, .int .i64 n, .string t, .string y, .string ty] 43)).alloc (.cells #[.int .i64 ax, .int .i64 an, .string at', .string ay] 31) := ⟨_, rfl⟩
    have bW : Below w.heap.size w W := by rw [hW]; exact bAl (bAl (Below.refl _ _) _) _
    have RH : Hid (RowIs W w.heap.size #[.int .i64 3, .int .i64 x, .int .i64 n, .string t, .string y, .string ty] 43) := hide (by rw [hW]; exact (RowIs.new w _ _).keep (bAl (Below.refl _ _) _))
    have RA : Hid (RowIs W (w.heap.size + 1) #[.int .i64 ax, .int .i64 an, .string at', .string ay] 31) := hide (by rw [hW]; have := RowIs.new (w.alloc (.cells #[.int .i64 3, .int .i64 x, .int .i64 n, .string t, .string y, .string ty] 43)) #[.int .i64 ax, .int .i64 an, .string at', .string ay] 31; simpa using this)
    have Y0 := hide (And.intro ((unhide RA).at (o := 0) (v := .int .i64 ax) rfl) (And.intro ((unhide RA).at (o := 1) (v := .int .i64 an) rfl) (And.intro ((unhide RA).at (o := 2) (v := .string at') rfl) (And.intro ((unhide RA).at (o := 3) (v := .string ay) rfl) (And.intro ((unhide RH).at (o := 1) (v := .int .i64 x) rfl) (And.intro ((unhide RH).at (o := 2) (v := .int .i64 n) rfl) (And.intro ((unhide RH).at (o := 3) (v := .string t) rfl) ((unhide RH).at (o := 4) (v := .string y) rfl))))))))
    have BW := hide bW
    have HW := hide hW.symm
    clear hW bW
    go_enter Tryz.func37, Tryz.ntmps37
    go_wp2_with fail
    rw [unhide HW]
    go_region_held3 (fun w' => w'.cell? ⟨w.heap.size + 1, 0, none⟩ = some (.int .i64 ax) ∧ w'.cell? ⟨w.heap.size + 1, 1, none⟩ = some (.int .i64 an) ∧ w'.cell? ⟨w.heap.size + 1, 2, none⟩ = some (.string at') ∧ w'.cell? ⟨w.heap.size + 1, 3, none⟩ = some (.string ay) ∧ w'.cell? ⟨w.heap.size, 1, none⟩ = some (.int .i64 x) ∧ w'.cell? ⟨w.heap.size, 2, none⟩ = some (.int .i64 n) ∧ w'.cell? ⟨w.heap.size, 3, none⟩ = some (.string t) ∧ w'.cell? ⟨w.heap.size, 4, none⟩ = some (.string y))
      (first | exact unhide Y0 | exact unhide Y1 | exact unhide Y2)
      (first
        | (go_at_call 23; refine (unhide q1 _ (unhide BW).drew).mono ?_; rintro e w1 ⟨⟨v, L, rr, rfl, hL, hS, hO⟩, hb1⟩; replace hb1 := undrew hb1; obtain ⟨va, vc, ev⟩ := own_sl hO; subst ev; have MEM := hide (fun z => (hS.mem z).trans (hL z)); have OW := hide hO; have RH1 := hide ((unhide RH).keep hb1); have RA1 := hide ((unhide RA).keep hb1); have Y1 := hide (And.intro ((unhide RA1).at (o := 0) (v := .int .i64 ax) rfl) (And.intro ((unhide RA1).at (o := 1) (v := .int .i64 an) rfl) (And.intro ((unhide RA1).at (o := 2) (v := .string at') rfl) (And.intro ((unhide RA1).at (o := 3) (v := .string ay) rfl) (And.intro ((unhide RH1).at (o := 1) (v := .int .i64 x) rfl) (And.intro ((unhide RH1).at (o := 2) (v := .int .i64 n) rfl) (And.intro ((unhide RH1).at (o := 3) (v := .string t) rfl) ((unhide RH1).at (o := 4) (v := .string y) rfl)))))))); have B1 := hide (bTr (unhide BW) hb1); have LR : Hid (rr.length ≤ maxLen) := hide (by rcases hO.2 with h | ⟨_, _, _, h, _, _, h2, h3, _⟩; (· rw [h.2]; exact Nat.zero_le _); (· omega)); clear hL hS hO hb1)
        | (go_at_call 47; refine (l12Has_n ⟨va, rr.length, vc⟩ rr ⟨x, n, t, y⟩ _ (unhide LR) (SqA.of (sla_own (unhide OW)))).mono ?_; rintro e w2 ⟨⟨b, rfl, hb⟩, hb2⟩; have HB := hide (hb.trans (unhide MEM _)); have Y2 := hide (And.intro (((unhide RA1).keep hb2).at (o := 0) (v := .int .i64 ax) rfl) (And.intro (((unhide RA1).keep hb2).at (o := 1) (v := .int .i64 an) rfl) (And.intro (((unhide RA1).keep hb2).at (o := 2) (v := .string at') rfl) (And.intro (((unhide RA1).keep hb2).at (o := 3) (v := .string ay) rfl) (And.intro (((unhide RH1).keep hb2).at (o := 1) (v := .int .i64 x) rfl) (And.intro (((unhide RH1).keep hb2).at (o := 2) (v := .int .i64 n) rfl) (And.intro (((unhide RH1).keep hb2).at (o := 3) (v := .string t) rfl) (((unhide RH1).keep hb2).at (o := 4) (v := .string y) rfl)))))))); have B2 := hide (bTr (unhide B1) hb2); clear hb hb2))
    go_wp2_with fail
    go_ret
    exact ⟨retB (b := b) (unhide HB), unhide B2⟩
  have d3 : (k == 3) = false := by simpa using k3
  rw [if_neg k3]
  clear q1
  by_cases k4 : k = 4
  · subst k4
    clear k1 k2 k3 d1 d2 d3
    rw [if_pos rfl]
    by_cases e : ay = ty
    case neg =>
      have d : (ByteArray.toList ty == ByteArray.toList ay) = false := str_neN (fun h => e h.symm)
      have no : Hid (¬ ay = ty) := hide e
      clear e
      go_enter Tryz.func37, Tryz.ntmps37
      go_wp2_with fail
      go_ret
      exact ⟨retB (b := false) ⟨fun h => (by cases h), fun h => absurd h (unhide no)⟩, bAl (bAl (Below.refl _ _) _) _⟩
    subst e
    go_enter Tryz.func37, Tryz.ntmps37
    go_wp2_with fail
    go_ret
    exact ⟨retB (b := true) (by first | exact ⟨fun _ => rfl, fun _ => rfl⟩ | simp), bAl (bAl (Below.refl _ _) _) _⟩
  have d4 : (k == 4) = false := by simpa using k4
  rw [if_neg k4]
  clear k1 k2 k3 k4
  go_enter Tryz.func37, Tryz.ntmps37
  go_wp2_with fail
  go_ret
  exact ⟨retB (b := false) (by simp), bAl (bAl (Below.refl _ _) _) _⟩
set_option maxRecDepth 20000 in
set_option maxHeartbeats 4000000 in
theorem sHeadMatches_n (hd : Hd) (lt : List ThingE) (h : HeadT) (a : AtomT) (w : World) (hn : ∀ e ∈ lt, ThingN e.t) (hl : lt.length ≤ maxLen) (hs : SqThingE w 0 hd lt) (ho : h.Ok) (hao : a.Ok) :
    Calls Tryz.prog 17 #[.slice hd.a hd.len hd.cap, hAgg h, encA a] w fun r w' => RetB r (HMs (lt.map (·.t)) h a) ∧ Below w.heap.size w w' := by
  obtain ⟨W, hW⟩ : ∃ W, W = (w.alloc (.cells #[.int .i64 h.k, .int .i64 h.x, .int .i64 h.n, .string h.t, .string h.y, .string h.ty] 43)).alloc (.cells #[.int .i64 a.x, .int .i64 a.n, .string a.t, .string a.y] 31) := ⟨_, rfl⟩
  have bW : Below w.heap.size w W := by rw [hW]; exact bAl (bAl (Below.refl _ _) _) _
  have RH : Hid (RowIs W w.heap.size #[.int .i64 h.k, .int .i64 h.x, .int .i64 h.n, .string h.t, .string h.y, .string h.ty] 43) := hide (by rw [hW]; exact (RowIs.new w _ _).keep (bAl (Below.refl _ _) _))
  have RA : Hid (RowIs W (w.heap.size + 1) #[.int .i64 a.x, .int .i64 a.n, .string a.t, .string a.y] 31) := hide (by rw [hW]; have := RowIs.new (w.alloc (.cells #[.int .i64 h.k, .int .i64 h.x, .int .i64 h.n, .string h.t, .string h.y, .string h.ty] 43)) #[.int .i64 a.x, .int .i64 a.n, .string a.t, .string a.y] 31; simpa using this)
  have q1 := hide (fun (w' : World) (hb : Below W.heap.size W w') => sGoodThings_n hd (lt.map (·.t)) w' (fun z hz => by obtain ⟨e, he, rfl⟩ := List.mem_map.1 hz; exact hn e he) (by simpa using hl) ⟨lt, rfl, hs.keep (bTr bW hb)⟩)
  have q2 : Hid (∀ (w' : World), Below W.heap.size W w' → Calls Tryz.prog 36 #[hAgg h, .bool true] w' fun e w'' => RetB e (HeadP h) ∧ Below w'.heap.size w' w'') := hide (fun w' _ => (l10GoodHead_any h true w' ho).mono fun e w'' ⟨h1, h2⟩ => ⟨by obtain ⟨b, e1, e2⟩ := h1; exact ⟨b, e1, e2.trans ⟨fun g => g.1, fun g => ⟨g, .inl rfl⟩⟩⟩, h2⟩)
  have q3 := hide (fun (w' : World) (_ : Below W.heap.size W w') => l11Ref_any a w' hao)
  have q4' : Hid (GThs (lt.map (·.t)) → ∀ (w' : World), Below W.heap.size W w' → Calls Tryz.prog 37 #[.slice hd.a hd.len hd.cap, hAgg h, encA a] w' fun e w'' => RetB e (HMat (parL (lt.map (·.t))) h a) ∧ Below w'.heap.size w' w'') := hide (fun g w' hb => l12Matches_n hd lt h a w' g hn hl (hs.keep (bTr bW hb)) hao)
  have BW := hide bW
  have BX := hide (Below.refl W.heap.size W)
  have HW := hide hW.symm
  have D : Hid (HMs (lt.map (·.t)) h a ↔ (GThs (lt.map (·.t)) ∧ HeadP h ∧ refA a = true ∧ HMat (parL (lt.map (·.t))) h a)) := hide Iff.rfl
  clear hn hl hs ho hao hW bW
  unfold encA at q4' ⊢
  have c0 := (unhide RH).at (o := 0) (v := .int .i64 h.k) rfl
  have c1 := (unhide RH).at (o := 1) (v := .int .i64 h.x) rfl
  have c2 := (unhide RH).at (o := 2) (v := .int .i64 h.n) rfl
  have c3 := (unhide RH).at (o := 3) (v := .string h.t) rfl
  have c4 := (unhide RH).at (o := 4) (v := .string h.y) rfl
  have c5 := (unhide RH).at (o := 5) (v := .string h.ty) rfl
  have d0 := (unhide RA).at (o := 0) (v := .int .i64 a.x) rfl
  have d1 := (unhide RA).at (o := 1) (v := .int .i64 a.n) rfl
  have d2 := (unhide RA).at (o := 2) (v := .string a.t) rfl
  have d3 := (unhide RA).at (o := 3) (v := .string a.y) rfl
  go_enter Tryz.func17, Tryz.ntmps17
  go_wp2_with fail
  rw [unhide HW]
  refine (unhide q1 _ (unhide BX)).mono ?_
  rintro r w1 ⟨⟨v, rfl, hv⟩, hb⟩
  replace RH := hide ((unhide RH).keep hb)
  replace RA := hide ((unhide RA).keep hb)
  replace BX := hide (bTr (unhide BX) hb)
  have H1 := hide hv
  clear hb hv q1 c0 c1 c2 c3 c4 c5 d0 d1 d2 d3
  cases v
  case false =>
    have no : Hid (¬ HMs (lt.map (·.t)) h a) := hide (fun g => by have := (unhide H1).2 ((unhide D).1 g).1; cases this)
    go_wp2_with fail
    go_ret
    exact ⟨retB (b := false) ⟨fun h => (by cases h), fun h => absurd h (unhide no)⟩, bTr (unhide BW) (unhide BX)⟩
  replace H1 := hide ((unhide H1).1 rfl)
  have c0 := (unhide RH).at (o := 0) (v := .int .i64 h.k) rfl
  have c1 := (unhide RH).at (o := 1) (v := .int .i64 h.x) rfl
  have c2 := (unhide RH).at (o := 2) (v := .int .i64 h.n) rfl
  have c3 := (unhide RH).at (o := 3) (v := .string h.t) rfl
  have c4 := (unhide RH).at (o := 4) (v := .string h.y) rfl
  have c5 := (unhide RH).at (o := 5) (v := .string h.ty) rfl
  have d0 := (unhide RA).at (o := 0) (v := .int .i64 a.x) rfl
  have d1 := (unhide RA).at (o := 1) (v := .int .i64 a.n) rfl
  have d2 := (unhide RA).at (o := 2) (v := .string a.t) rfl
  have d3 := (unhide RA).at (o := 3) (v := .string a.y) rfl

  go_wp2_with fail
  refine (unhide q2 _ (unhide BX)).mono ?_
  rintro r w2 ⟨⟨v, rfl, hv⟩, hb⟩
  replace RH := hide ((unhide RH).keep hb)
  replace RA := hide ((unhide RA).keep hb)
  replace BX := hide (bTr (unhide BX) hb)
  have H2 := hide hv
  clear hb hv q2 c0 c1 c2 c3 c4 c5 d0 d1 d2 d3
  cases v
  case false =>
    have no : Hid (¬ HMs (lt.map (·.t)) h a) := hide (fun g => by have := (unhide H2).2 ((unhide D).1 g).2.1; cases this)
    go_wp2_with fail
    go_ret
    exact ⟨retB (b := false) ⟨fun h => (by cases h), fun h => absurd h (unhide no)⟩, bTr (unhide BW) (unhide BX)⟩
  replace H2 := hide ((unhide H2).1 rfl)
  have c0 := (unhide RH).at (o := 0) (v := .int .i64 h.k) rfl
  have c1 := (unhide RH).at (o := 1) (v := .int .i64 h.x) rfl
  have c2 := (unhide RH).at (o := 2) (v := .int .i64 h.n) rfl
  have c3 := (unhide RH).at (o := 3) (v := .string h.t) rfl
  have c4 := (unhide RH).at (o := 4) (v := .string h.y) rfl
  have c5 := (unhide RH).at (o := 5) (v := .string h.ty) rfl
  have d0 := (unhide RA).at (o := 0) (v := .int .i64 a.x) rfl
  have d1 := (unhide RA).at (o := 1) (v := .int .i64 a.n) rfl
  have d2 := (unhide RA).at (o := 2) (v := .string a.t) rfl
  have d3 := (unhide RA).at (o := 3) (v := .string a.y) rfl

  go_wp2_with fail
  refine (unhide q3 _ (unhide BX)).mono ?_
  rintro r w3 ⟨⟨v, rfl, hv⟩, hb⟩
  replace RH := hide ((unhide RH).keep hb)
  replace RA := hide ((unhide RA).keep hb)
  replace BX := hide (bTr (unhide BX) hb)
  have H3 := hide hv
  clear hb hv q3 c0 c1 c2 c3 c4 c5 d0 d1 d2 d3
  cases v
  case false =>
    have no : Hid (¬ HMs (lt.map (·.t)) h a) := hide (fun g => by have := (unhide H3).2 ((unhide D).1 g).2.2.1; cases this)
    go_wp2_with fail
    go_ret
    exact ⟨retB (b := false) ⟨fun h => (by cases h), fun h => absurd h (unhide no)⟩, bTr (unhide BW) (unhide BX)⟩
  replace H3 := hide ((unhide H3).1 rfl)
  have c0 := (unhide RH).at (o := 0) (v := .int .i64 h.k) rfl
  have c1 := (unhide RH).at (o := 1) (v := .int .i64 h.x) rfl
  have c2 := (unhide RH).at (o := 2) (v := .int .i64 h.n) rfl
  have c3 := (unhide RH).at (o := 3) (v := .string h.t) rfl
  have c4 := (unhide RH).at (o := 4) (v := .string h.y) rfl
  have c5 := (unhide RH).at (o := 5) (v := .string h.ty) rfl
  have d0 := (unhide RA).at (o := 0) (v := .int .i64 a.x) rfl
  have d1 := (unhide RA).at (o := 1) (v := .int .i64 a.n) rfl
  have d2 := (unhide RA).at (o := 2) (v := .string a.t) rfl
  have d3 := (unhide RA).at (o := 3) (v := .string a.y) rfl

  have q4 := hide (unhide q4' (unhide H1))
  clear q4'
  go_wp2_with fail
  refine (unhide q4 _ (unhide BX)).mono ?_
  rintro r w4 ⟨⟨v, rfl, hv⟩, hb⟩
  replace RH := hide ((unhide RH).keep hb)
  replace RA := hide ((unhide RA).keep hb)
  replace BX := hide (bTr (unhide BX) hb)
  have H4 := hide hv
  clear hb hv q4 c0 c1 c2 c3 c4 c5 d0 d1 d2 d3
  go_wp2_with fail
  go_ret
  exact ⟨retB (b := v) ((unhide H4).trans ⟨fun g => (unhide D).2 ⟨unhide H1, unhide H2, unhide H3, g⟩, fun g => ((unhide D).1 g).2.2.2⟩), bTr (unhide BW) (unhide BX)⟩
end Go.Proofs.YtpfekkhnjaopdaaGreat.V
