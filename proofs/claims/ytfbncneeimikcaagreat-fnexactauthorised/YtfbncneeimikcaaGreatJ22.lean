/- OSa, GSor, one behind the other. -/
import Derived.Test.YtfbncneeimikcaaGreatJ17
import Derived.Test.YtfbncneeimikcaaGreatJ10
import Derived.Test.YtfbncneeimikcaaGreatJ20
import Derived.BigQuiet
/- spec.l3Rising, l15Role, l15All. -/
namespace Go.Proofs.YtfbncneeimikcaaGreat.V
set_option linter.unusedSimpArgs false
set_option linter.unusedVariables false
open Go.RowKit Go.Maps

theorem str_neO {a b : ByteArray} (h : ¬ a = b) : (ByteArray.toList a == ByteArray.toList b) = false := by
  have : ¬ a.toList = b.toList := fun e => h (by
    rw [ByteArray.toList_eq, ByteArray.toList_eq] at e
    exact Go.WideShapes.bytes_inj e)
  simpa using this
theorem str_eqO (a : ByteArray) : (ByteArray.toList a == ByteArray.toList a) = true := by simp
theorem find_atO {E : Type} {p : E → Bool} {l : List E} {k : Nat} (hk : k < l.length) (h1 : ∀ i (h : i < l.length), i < k → p l[i] = false) (h2 : p l[k] = true) : l.find? p = some l[k] := by
  induction l generalizing k with
  | nil => cases hk
  | cons x l ih =>
    rw [List.find?_cons]
    cases k with
    | zero => simp at h2; simp [h2]
    | succ k =>
      have h0 := h1 0 (by simp) (by omega)
      simp at h0
      simp [h0]
      exact ih (by simpa using hk) (fun i hi hik => by have := h1 (i + 1) (by simpa using hi) (by omega); simpa using this) (by simpa using h2)
set_option maxRecDepth 20000 in
set_option maxHeartbeats 4000000 in
theorem l3Rising_n (h : Hd) (l : List ByteArray) (w : World) (hl : l.length ≤ maxLen) (ho : ∀ q ∈ l, ByteArray.size q ≤ maxLen) (hs : SqS w 0 h l) :
    Calls Tryz.prog 53 #[.slice h.a h.len h.cap] w fun e w' => RetB e (∀ i (h : i + 1 < l.length), cmpT l[i].data.toList l[i + 1].data.toList < 0) ∧ Below w.heap.size w w' := by
  have qq : ∀ x ∈ l, ∀ y ∈ l, ∀ w' : World, Below w.heap.size w w' → Calls Tryz.prog 52 #[.string x, .string y] w' fun e w'' => e = .returned (.int .i64 (cmpT x.data.toList y.data.toList)) ∧ Below w'.heap.size w' w'' := fun x hx y _ w' _ => cmpText_any x y w' (ho x hx)
  have HS := hide hs
  have HQ := hide qq
  have HL := hide hs.1
  have hlm : h.len ≤ maxLen := by rw [hs.1]; exact hl
  unfold maxLen at hlm
  obtain ⟨a, len, cap⟩ := h
  simp only at hlm HL
  clear hs qq hl
  go_enter Tryz.func53, Tryz.ntmps53
  go_wp2
  go_loopw [3] (fun i w' => ∃ k : Nat, 1 ≤ k ∧ (k ≤ len ∨ k = 1) ∧ i = .int .i64 k ∧ Hid (Below w.heap.size w w') ∧ Hid (∀ i (h : i + 1 < l.length), i + 1 < k → cmpT l[i].data.toList l[i + 1].data.toList < 0)) (fun i _ => len - (Go.RowKit.intOf i).toNat)
  case atStart => exact ⟨1, Nat.le_refl _, .inr rfl, rfl, hide (Below.refl _ _), hide (fun i _ h => absurd h (by omega))⟩
  case round =>
    obtain ⟨k, hk1, hk, rfl, hb, hris⟩ := hrel
    by_cases hlt : k < len
    · obtain ⟨j, rfl⟩ : ∃ j, k = j + 1 := ⟨k - 1, by omega⟩
      have hk' : j + 1 < l.length := by have := unhide HL; omega
      have hj : j < l.length := by omega
      obtain ⟨bb_, off, e0, hrow⟩ := ((unhide HS).keep (unhide hb)).sl.at hlt
      simp only at e0
      subst e0
      have p0 := hrow.c (j + 1) hk'
      have o0 := hrow.c j hj
      have zk := hrow.z
      have qc := hide (fun (q : Kept wr) => unhide HQ l[j] (List.getElem_mem hj) l[j + 1] (List.getElem_mem hk') q.w (bTr (unhide hb) q.h))
      have stepR : Hid (cmpT l[j].data.toList l[j + 1].data.toList < 0 → ∀ i (h : i + 1 < l.length), i + 1 < j + 1 + 1 → cmpT l[i].data.toList l[i + 1].data.toList < 0) := hide (fun g i hi h1 => by
        rcases Nat.lt_or_ge i j with h2 | h2
        · exact unhide hris i hi (by omega)
        · obtain rfl : i = j := by omega
          exact g)
      have noR : Hid (¬ cmpT l[j].data.toList l[j + 1].data.toList < 0 → ¬ ∀ i (h : i + 1 < l.length), cmpT l[i].data.toList l[i + 1].data.toList < 0) := hide (fun g h => g (h j hk'))
      clear hrow hris
      generalize cmpT l[j].data.toList l[j + 1].data.toList = cc at qc stepR noR
      generalize l[j + 1] = P at p0 qc
      generalize l[j] = Q at o0 qc
      have ne : Nonempty (Kept wr) := ⟨⟨wr, Below.refl _ _⟩⟩
      have x0 := kept_cell zk p0
      have y0 := kept_cell zk o0
      have ej : IntKind.i64.wrap ((j : Int) + 1 - 1) = (j : Int) := by rw [IntKind.wrap_i64]; omega
      have i0 : (0 : Int) ≤ (j : Int) := by omega
      have i1 : (j : Int) < (len : Int) := by omega
      have i2 : (j : Int) + 1 < (len : Int) := by omega
      clear p0 o0 zk
      by_cases hc : cc < 0
      · have dc : decide (0 ≤ cc) = false := by simp; omega
        replace stepR := hide (unhide stepR hc)
        clear hc noR
        go_wp2_with fail
        refine wp_region_kept (by kernel_rfl) (by kernel_rfl) ?_
        repeat (first
          | go_big_quiet_step ((go_at_call 52; exact kept_call (unhide qc _)))
          | quiet_step ((go_at_call 52; exact kept_call (unhide qc _))))
        refine wpQuiet_nil ?_
        rintro _ ⟨q, rfl⟩
        go_wp2_with fail
        exact ⟨⟨j + 1 + 1, by omega, by omega, by go_num, hide (bTr (unhide hb) q.h), stepR⟩, by simp [Go.RowKit.intOf]; omega⟩
      · have dc : decide (0 ≤ cc) = true := by simp; omega
        replace noR := hide (unhide noR hc)
        clear hc stepR
        go_wp2_with fail
        refine wp_region_kept (by kernel_rfl) (by kernel_rfl) ?_
        repeat (first
          | go_big_quiet_step ((go_at_call 52; exact kept_call (unhide qc _)))
          | quiet_step ((go_at_call 52; exact kept_call (unhide qc _))))
        refine wpQuiet_nil ?_
        rintro _ ⟨q, rfl⟩
        go_wp2_with fail
        go_ret
        exact ⟨retB (b := false) ⟨fun h => (by cases h), fun h => absurd h (unhide noR)⟩, bTr (unhide hb) q.h⟩
    · have hR : Hid (∀ i (h : i + 1 < l.length), cmpT l[i].data.toList l[i + 1].data.toList < 0) := hide (fun i h => unhide hris i h (by have := unhide HL; omega))
      clear hris
      go_wp2_with fail
      go_ret
      exact ⟨retB (b := true) ⟨fun _ => unhide hR, fun _ => rfl⟩, unhide hb⟩
set_option maxRecDepth 20000 in
set_option maxHeartbeats 4000000 in
theorem l15Role_n (h0 h1 h2 : Hd) (l : List RoleE) (s : ByteArray) (w : World) (hl : l.length ≤ maxLen) (hs : SqRoleE w 0 h0 l) :
    Calls Tryz.prog 56 #[.agg #[.slice h0.a h0.len h0.cap, .slice h1.a h1.len h1.cap, .slice h2.a h2.len h2.cap], .string s] w fun r w' => (∃ (x : RoleE) (b : Bool), r = .returned (.tuple #[.agg #[.string x.t.f0, .slice x.h1.a x.h1.len x.h1.cap, .slice x.h2.a x.h2.len x.h2.cap], .bool b]) ∧ l.find? (fun c => decide (c.t.f0 = s)) = (if b = true then some x else none) ∧ (b = false → x.h1 = ⟨none, 0, 0⟩ ∧ x.h2 = ⟨none, 0, 0⟩)) ∧ Below w.heap.size w w' := by
  have HL := hide hs.1
  have LM : h0.len ≤ maxLen := by rw [hs.1]; exact hl
  unfold maxLen at LM
  obtain ⟨FD, hFD⟩ : ∃ FD, FD = l.find? (fun c => decide (c.t.f0 = s)) := ⟨_, rfl⟩
  have HFD := hide hFD
  rw [← hFD]
  have HS := hide hs
  have R := hide ((RowIs.new w #[.slice h0.a h0.len h0.cap, .slice h1.a h1.len h1.cap, .slice h2.a h2.len h2.cap] 38).keep (bAl (Below.refl _ _) (.cells #[.string ⟨#[]⟩, .slice none 0 0, .slice none 0 0] 103)))
  have Z : Hid (RowIs ((w.alloc (.cells #[.slice h0.a h0.len h0.cap, .slice h1.a h1.len h1.cap, .slice h2.a h2.len h2.cap] 38)).alloc (.cells #[.string ⟨#[]⟩, .slice none 0 0, .slice none 0 0] 103)) (w.heap.size + 1) #[.string ⟨#[]⟩, .slice none 0 0, .slice none 0 0] 103) := hide (by have := RowIs.new (w.alloc (.cells #[.slice h0.a h0.len h0.cap, .slice h1.a h1.len h1.cap, .slice h2.a h2.len h2.cap] 38)) #[.string ⟨#[]⟩, .slice none 0 0, .slice none 0 0] 103; simpa using this)
  have B := hide (bAl (bAl (Below.refl w.heap.size w) (.cells #[.slice h0.a h0.len h0.cap, .slice h1.a h1.len h1.cap, .slice h2.a h2.len h2.cap] 38)) (.cells #[.string ⟨#[]⟩, .slice none 0 0, .slice none 0 0] 103))
  obtain ⟨W0, hW0⟩ : ∃ W, W = (w.alloc (.cells #[.slice h0.a h0.len h0.cap, .slice h1.a h1.len h1.cap, .slice h2.a h2.len h2.cap] 38)).alloc (.cells #[.string ⟨#[]⟩, .slice none 0 0, .slice none 0 0] 103) := ⟨_, rfl⟩
  have HW := hide hW0
  rw [← hW0] at R Z B
  clear hs hl hW0 hFD
  go_enter Tryz.func56, Tryz.ntmps56
  go_wp2_with fail
  rw [← unhide HW]
  clear HW
  go_loopw [11] (fun i w' => ∃ k : Nat, k ≤ h0.len ∧ i = .int .i64 k ∧ Hid (Below w.heap.size w w') ∧ Hid (RowIs w' (w.heap.size + 1) #[.string ⟨#[]⟩, .slice none 0 0, .slice none 0 0] 103) ∧ Hid (∀ i (h : i < l.length), i < k → ¬ l[i].t.f0 = s)) (fun i _ => h0.len - (Go.RowKit.intOf i).toNat)
  case atStart => exact ⟨0, Nat.zero_le _, rfl, B, Z, hide (fun i _ h => absurd h (Nat.not_lt_zero _))⟩
  case round =>
    clear B Z R
    obtain ⟨k, hk, rfl, B, Z, hA⟩ := hrel
    by_cases hlt : k < h0.len
    case neg =>
      have no : Hid (FD = none) := hide (by
        rw [unhide HFD]
        refine List.find?_eq_none.2 fun e he hd => ?_
        obtain ⟨i, hi, rfl⟩ := List.getElem_of_mem he
        exact unhide hA i hi (by have := unhide HL; omega) (by simpa using hd))
      have k0 := (unhide Z).at (o := 0) (v := .string ⟨#[]⟩) rfl
      have k1 := (unhide Z).at (o := 1) (v := .slice none 0 0) rfl
      have k2 := (unhide Z).at (o := 2) (v := .slice none 0 0) rfl
      have g0 := (unhide Z).froz 0
      have g1 := (unhide Z).froz 1
      have g2 := (unhide Z).froz 2
      clear hA HFD
      go_wp2_with fail
      refine bodyPost_ret (v := .tuple #[.agg #[.string ⟨#[]⟩, .slice none 0 0, .slice none 0 0], .bool false]) (by simp [results, Tryz.results56, go_sem, k0, k1, k2]) rfl ⟨⟨⟨⟨⟨#[]⟩, [], []⟩, ⟨none, 0, 0⟩, ⟨none, 0, 0⟩⟩, false, rfl, by rw [unhide no]; rfl, fun _ => ⟨rfl, rfl⟩⟩, ?_⟩
      repeat refine bSt ?_ (by omega) _ _
      exact unhide B
    have hk' : k < l.length := by have := unhide HL; omega
    obtain ⟨b1, off1, e1, row1⟩ := ((unhide HS).keep (unhide B)).at hlt
    have c0 := row1.c0 k hk'
    have c1 := row1.c1 k hk'
    have c2 := row1.c2 k hk'
    have YES : Hid (l[k].t.f0 = s → FD = some l[k]) := hide (fun h => by
      rw [unhide HFD]
      exact find_atO hk' (fun i hi hik => by simpa using unhide hA i hi hik) (by simpa using h))
    have STP : Hid (¬ l[k].t.f0 = s → ∀ i (h : i < l.length), i < k + 1 → ¬ l[i].t.f0 = s) := hide (fun g i hi h1 => by
      rcases Nat.lt_or_ge i k with h2 | h2
      · exact unhide hA i hi h2
      · obtain rfl : i = k := by omega
        exact g)
    clear row1 hA HFD
    generalize l[k] = A at *
    generalize h0.a = aa at e1 ⊢
    subst e1
    have BN := hide (bAl (unhide B) (.cells #[.string A.t.f0, .slice A.h1.a A.h1.len A.h1.cap, .slice A.h2.a A.h2.len A.h2.cap] 103))
    have ZN := hide ((unhide Z).keep (bAl (Below.refl _ _) (.cells #[.string A.t.f0, .slice A.h1.a A.h1.len A.h1.cap, .slice A.h2.a A.h2.len A.h2.cap] 103)))
    by_cases he : A.t.f0 = s
    · have yes := hide (unhide YES he)
      have e : (A.t.f0.toList == s.toList) = true := by rw [he]; exact str_eqO _
      have k0 := (unhide Z).at (o := 0) (v := .string ⟨#[]⟩) rfl
      have k1 := (unhide Z).at (o := 1) (v := .slice none 0 0) rfl
      have k2 := (unhide Z).at (o := 2) (v := .slice none 0 0) rfl
      have g0 := (unhide Z).froz 0
      have g1 := (unhide Z).froz 1
      have g2 := (unhide Z).froz 2
      have zz : w.heap.size + 1 < wr.heap.size := (unhide Z).lt
      have ZF := (((unhide Z).set 0 (.string A.t.f0)).set 1 (.slice A.h1.a A.h1.len A.h1.cap)).set 2 (.slice A.h2.a A.h2.len A.h2.cap)
      simp only [List.setIfInBounds_toArray, List.set_cons_zero, List.set_cons_succ] at ZF
      have ZG := ZF.keep (bAl (Below.refl _ _) (.cells #[.string A.t.f0, .slice A.h1.a A.h1.len A.h1.cap, .slice A.h2.a A.h2.len A.h2.cap] 103))
      have f0 := ZG.at (o := 0) (v := .string A.t.f0) rfl
      have f1 := ZG.at (o := 1) (v := .slice A.h1.a A.h1.len A.h1.cap) rfl
      have f2 := ZG.at (o := 2) (v := .slice A.h2.a A.h2.len A.h2.cap) rfl
      have F := hide (And.intro f0 (And.intro f1 f2))
      clear he YES STP ZF ZG f0 f1 f2
      go_wp2_with fail
      obtain ⟨f0, f1, f2⟩ := unhide F
      refine bodyPost_ret (v := .tuple #[.agg #[.string A.t.f0, .slice A.h1.a A.h1.len A.h1.cap, .slice A.h2.a A.h2.len A.h2.cap], .bool true]) (by simp [results, Tryz.results56, go_sem, f0, f1, f2]) rfl ⟨⟨A, true, rfl, by rw [unhide yes]; rfl, fun h => (by cases h)⟩, ?_⟩
      refine bAl ?_ _
      repeat refine bSt ?_ (by omega) _ _
      exact unhide B
    · have S := hide (unhide STP he)
      have e := str_neO he
      clear he YES STP
      go_wp2_with fail
      exact ⟨⟨k + 1, by omega, by go_num, BN, ZN, S⟩, by simp [Go.RowKit.intOf]; omega⟩
set_option maxRecDepth 20000 in
set_option maxHeartbeats 4000000 in
theorem l15All_n (h0 h1 h2 : Hd) (rs : List RoleE) (h : Hd) (l : List ByteArray) (w : World) (lt : rs.length ≤ maxLen) (ll : l.length ≤ maxLen) (ho : ∀ q ∈ l, ByteArray.size q ≤ maxLen) (st : SqRoleE w 0 h0 rs) (sl : SqS w 0 h l) :
    Calls Tryz.prog 50 #[.agg #[.slice h0.a h0.len h0.cap, .slice h1.a h1.len h1.cap, .slice h2.a h2.len h2.cap], .slice h.a h.len h.cap] w fun r w' => RetB r (AllR (nms (rs.map (·.t))) l) ∧ Below w.heap.size w w' := by
  have q1 : Hid (∀ (s : ByteArray) (w' : World) (hb : Below w.heap.size w w'), Calls Tryz.prog 56 #[.agg #[.slice h0.a h0.len h0.cap, .slice h1.a h1.len h1.cap, .slice h2.a h2.len h2.cap], .string s] w' fun r w'' => (∃ (x : RoleE) (b : Bool), r = .returned (.tuple #[.agg #[.string x.t.f0, .slice x.h1.a x.h1.len x.h1.cap, .slice x.h2.a x.h2.len x.h2.cap], .bool b]) ∧ (b = true ↔ s ∈ nms (rs.map (·.t)))) ∧ Below w'.heap.size w' w'') := hide (fun s w' hb => (l15Role_n h0 h1 h2 rs s w' lt (st.keep hb)).mono fun e w'' ⟨⟨x, b, h, hf, _⟩, hb2⟩ => ⟨⟨x, b, h, by
    cases b
    · refine ⟨fun h => (by cases h), fun h => ?_⟩
      have hf' : rs.find? (fun c => decide (c.t.f0 = s)) = none := by rw [hf]; rfl
      unfold nms at h
      rw [List.map_map] at h
      obtain ⟨y, hy, e⟩ := List.mem_map.1 h
      have := (List.find?_eq_none.1 hf') y hy
      simp at e
      simp [e] at this
    · refine ⟨fun _ => ?_, fun _ => rfl⟩
      have hf' : rs.find? (fun c => decide (c.t.f0 = s)) = some x := by rw [hf]; rfl
      have h1 := List.mem_of_find?_eq_some hf'
      have h2 := List.find?_some hf'
      simp at h2
      unfold nms
      rw [List.map_map]
      exact List.mem_map.2 ⟨x, h1, h2⟩⟩, hb2⟩)
  have q2 := hide (fun (w' : World) (hb : Below w.heap.size w w') => l3Rising_n h l w' ll ho (sl.keep hb))
  have D : Hid (AllR (nms (rs.map (·.t))) l ↔ ((∀ s ∈ l, s ∈ nms (rs.map (·.t))) ∧ RisT l)) := hide Iff.rfl
  generalize AllR (nms (rs.map (·.t))) l = G at D ⊢
  generalize nms (rs.map (·.t)) = ns at D q1
  have HL := hide sl.1
  have LM : h.len ≤ maxLen := by rw [sl.1]; exact ll
  unfold maxLen at LM
  have SL := hide sl
  have R := hide (RowIs.new w #[.slice h0.a h0.len h0.cap, .slice h1.a h1.len h1.cap, .slice h2.a h2.len h2.cap] 38)
  have B := hide (bAl (Below.refl w.heap.size w) (.cells #[.slice h0.a h0.len h0.cap, .slice h1.a h1.len h1.cap, .slice h2.a h2.len h2.cap] 38))
  clear lt ll ho st sl
  obtain ⟨a, len, cap⟩ := h
  simp only at HL LM
  go_enter Tryz.func50, Tryz.ntmps50
  go_wp2_with fail
  go_loopw [11] (fun i w' => ∃ k : Nat, k ≤ len ∧ i = .int .i64 k ∧ Hid (Below w.heap.size w w') ∧ Hid (RowIs w' w.heap.size #[.slice h0.a h0.len h0.cap, .slice h1.a h1.len h1.cap, .slice h2.a h2.len h2.cap] 38) ∧ Hid (∀ i (h : i < l.length), i < k → l[i] ∈ ns)) (fun i _ => len - (Go.RowKit.intOf i).toNat)
  case atStart => exact ⟨0, Nat.zero_le _, rfl, B, R, hide (fun i _ h => absurd h (Nat.not_lt_zero _))⟩
  case round =>
    clear B R
    obtain ⟨k, hk, rfl, B, R, hA⟩ := hrel
    by_cases hlt : k < len
    case neg =>
      have ALL : Hid (∀ s ∈ l, s ∈ ns) := hide (fun s hs => by
        obtain ⟨i, hi, rfl⟩ := List.getElem_of_mem hs
        exact unhide hA i hi (by have := unhide HL; omega))
      clear hA q1
      go_wp2_with fail
      refine (unhide q2 _ (unhide B)).mono ?_
      rintro r w1 ⟨⟨v, rfl, hv⟩, hb⟩
      have HV := hide hv
      replace B := hide (bTr (unhide B) hb)
      clear hb hv q2
      go_wp2_with fail
      go_ret
      exact ⟨retB (b := v) ((unhide HV).trans ⟨fun h => (unhide D).2 ⟨unhide ALL, h⟩, fun h => ((unhide D).1 h).2⟩), unhide B⟩
    have hk' : k < l.length := by have := unhide HL; omega
    obtain ⟨b1, off1, e1, row1⟩ := ((unhide SL).keep (unhide B)).sl.at hlt
    simp only at e1
    subst e1
    have n0 := row1.c k hk'
    have r0 := (unhide R).at (o := 0) (v := .slice h0.a h0.len h0.cap) rfl
    have r1 := (unhide R).at (o := 1) (v := .slice h1.a h1.len h1.cap) rfl
    have r2 := (unhide R).at (o := 2) (v := .slice h2.a h2.len h2.cap) rfl
    have q3 := hide (unhide q1 l[k])
    have NOP : Hid (¬ l[k] ∈ ns → ¬ G) := hide (fun g h => g (((unhide D).1 h).1 _ (List.getElem_mem hk')))
    have STP : Hid (l[k] ∈ ns → ∀ i (h : i < l.length), i < k + 1 → l[i] ∈ ns) := hide (fun g i hi h1 => by
      rcases Nat.lt_or_ge i k with h2 | h2
      · exact unhide hA i hi h2
      · obtain rfl : i = k := by omega
        exact g)
    clear row1 hA
    generalize (l[k] ∈ ns) = PP at q3 NOP STP
    generalize l[k] = s at *
    go_wp2_with fail
    refine (unhide q3 _ (unhide B)).mono ?_
    rintro r w1 ⟨⟨x, b, rfl, hv⟩, hb⟩
    have HV := hide hv
    replace R := hide (((unhide R).keep hb).keep (bAl (Below.refl _ _) (.cells #[.string x.t.f0, .slice x.h1.a x.h1.len x.h1.cap, .slice x.h2.a x.h2.len x.h2.cap] 103)))
    replace B := hide (bAl (bTr (unhide B) hb) (.cells #[.string x.t.f0, .slice x.h1.a x.h1.len x.h1.cap, .slice x.h2.a x.h2.len x.h2.cap] 103))
    clear hb hv q3 n0 r0 r1 r2
    cases b
    · have no := hide (unhide NOP (fun h => by have := (unhide HV).2 h; cases this))
      clear NOP STP HV D
      go_wp2_with fail
      go_ret
      exact ⟨retB (b := false) ⟨fun h => (by cases h), fun h => absurd h (unhide no)⟩, unhide B⟩
    · have S := hide (unhide STP ((unhide HV).1 rfl))
      clear NOP STP HV
      go_wp2_with fail
      exact ⟨⟨k + 1, by omega, by go_num, B, R, S⟩, by simp [Go.RowKit.intOf]; omega⟩
end Go.Proofs.YtfbncneeimikcaaGreat.V
/- spec.l3Has, spec.l5Sorted. -/
namespace Go.Proofs.YtfbncneeimikcaaGreat
open Go.RowKit

theorem own_some {w : World} {base e size : Nat} {v : Value} {n : Nat} {xs : List Value} (h : w.ownsRow base e size v n xs) (hn : 0 < n) : ∃ g cap, v = .slice (some ⟨g, 0, none⟩) n cap ∧ base ≤ g := by
  rcases h.2 with ⟨rfl, rfl⟩ | ⟨g, cap, cur, rfl, hb, _⟩
  · omega
  · exact ⟨g, cap, rfl, hb⟩
theorem map_set_str (M : List Bs) (i : Nat) (x : Bs) : (M.set i x).map Value.string = (M.map Value.string).set i (.string x) := by rw [List.map_set]
theorem own_base {w : World} {base base' e size : Nat} {v : Value} {n : Nat} {xs : List Value} (h : w.ownsRow base e size v n xs) (hb : base' ≤ base) : w.ownsRow base' e size v n xs := by
  refine ⟨h.1, h.2.imp_right ?_⟩
  rintro ⟨g, cap, cur, h1, h2, h3⟩
  exact ⟨g, cap, cur, h1, by omega, h3⟩

theorem str_ne {a b : Bs} (h : ¬ a = b) : (ByteArray.toList a == ByteArray.toList b) = false := by
  have : ¬ a.toList = b.toList := fun e => h (by
    rw [ByteArray.toList_eq, ByteArray.toList_eq] at e
    exact Go.WideShapes.bytes_inj e)
  simpa using this
theorem str_eq (a : Bs) : (ByteArray.toList a == ByteArray.toList a) = true := by simp

set_option maxHeartbeats 400000 in
theorem l3Has_any (a : Option Addr) (len cap : Nat) (l : List Bs) (s : Bs) (w : World) (hl : len ≤ 1000000) (hs : SlS w a len l) :
    Calls Tryz.prog 54 #[.slice a len cap, .string s] w fun e w' => RetB e (s ∈ l) ∧ w = w' := by
  have HS := hide hs
  clear hs
  go_enter Tryz.func54, Tryz.ntmps54
  go_wp2_with fail
  go_loopw [9] (fun i wx => ∃ k : Nat, k ≤ len ∧ i = .int .i64 k ∧ Hid (¬ s ∈ l.take k) ∧ wx = w) (fun i _ => len - (Go.RowKit.intOf i).toNat)
  case atStart => exact ⟨0, Nat.zero_le _, rfl, hide (by simp), rfl⟩
  case round =>
    obtain ⟨k, hk, rfl, hn, rfl⟩ := hrel
    by_cases hlt : k < len
    · have hk' : k < l.length := by rw [← (unhide HS).1]; exact hlt
      obtain ⟨b, off, rfl, hrow⟩ := (unhide HS).at hlt
      have c0 := hrow.c k hk'
      have zk := hrow.z
      have eY : Hid (l[k] = s → s ∈ l) := hide (fun e => e ▸ List.getElem_mem hk')
      have eN : Hid (¬ l[k] = s → ¬ s ∈ l.take (k + 1)) := hide (fun e h => by
        rw [List.take_succ_eq_append_getElem hk', List.mem_append, List.mem_singleton] at h
        rcases h with h | h
        · exact unhide hn h
        · exact e h.symm)
      clear hrow
      generalize l[k] = A at c0 eY eN
      by_cases he : A = s
      · replace eY := hide (unhide eY he)
        subst he
        clear eN
        go_wp2_with fail
        go_ret
        exact ⟨retB (b := true) ⟨fun _ => unhide eY, fun _ => rfl⟩, rfl⟩
      · replace eN := hide (unhide eN he)
        have hne := str_ne he
        clear eY he
        go_wp2_with fail
        exact ⟨⟨k + 1, by omega, by go_num, eN, trivial⟩, by simp [Go.RowKit.intOf]; omega⟩
    · have hN : Hid (¬ s ∈ l) := hide (fun h => unhide hn (by rw [List.take_of_length_le (by have := (unhide HS).1; omega)]; exact h))
      go_wp2_with fail
      go_ret
      exact ⟨retB (b := false) ⟨fun h => (by cases h), fun h => absurd h (unhide hN)⟩, rfl⟩

/-- L with s at j. -/
def insL (L : List Bs) (s : Bs) (j : Nat) : List Bs := L.take j ++ s :: L.drop j
/-- On the way there: what was behind m stands one further on. -/
def shL (L : List Bs) (s : Bs) (m : Nat) : List Bs := (L ++ [s]).take (m + 1) ++ L.drop m
theorem shL_len {L : List Bs} {s : Bs} {m : Nat} (h : m ≤ L.length) : (shL L s m).length = L.length + 1 := by
  unfold shL; simp; omega
theorem shL_start (L : List Bs) (s : Bs) : shL L s L.length = L ++ [s] := by
  unfold shL
  rw [List.drop_length, List.append_nil, List.take_of_length_le (by simp)]
theorem shL_get {L : List Bs} {s : Bs} {m : Nat} (h : m ≤ L.length) : (shL L s m)[m]? = (L ++ [s])[m]? := by
  unfold shL
  rw [List.getElem?_append_left (by simp; omega), List.getElem?_take]; simp
theorem shL_get_pred {L : List Bs} {s : Bs} {m : Nat} (h : m < L.length) : (shL L s (m + 1))[m]? = some L[m] := by
  unfold shL
  rw [List.getElem?_append_left (by simp; omega), List.getElem?_take, if_pos (by omega), List.getElem?_append_left h, List.getElem?_eq_getElem h]
theorem shL_step {L : List Bs} {s : Bs} {m : Nat} (h : m < L.length) : (shL L s (m + 1)).set (m + 1) L[m] = shL L s m := by
  unfold shL
  have e1 : ((L ++ [s]).take (m + 1 + 1)) = (L ++ [s]).take (m + 1) ++ [(L ++ [s])[m + 1]'(by simp; omega)] := List.take_succ_eq_append_getElem (by simp; omega)
  rw [e1, List.append_assoc, List.set_append_right _ _ (by simp; omega)]
  have e2 : ((L ++ [s]).take (m + 1)).length = m + 1 := by simp; omega
  rw [e2, Nat.sub_self, List.singleton_append, List.set_cons_zero, List.drop_eq_getElem_cons h]
theorem shL_end {L : List Bs} {s : Bs} {j : Nat} (h : j ≤ L.length) : (shL L s j).set j s = insL L s j := by
  unfold shL insL
  have e1 : ((L ++ [s]).take (j + 1)) = (L ++ [s]).take j ++ [(L ++ [s])[j]'(by simp; omega)] := List.take_succ_eq_append_getElem (by simp; omega)
  have e2 : ((L ++ [s]).take j).length = j := by simp; omega
  rw [e1, List.append_assoc, List.set_append_right _ _ (by omega), e2, Nat.sub_self, List.singleton_append, List.set_cons_zero, List.take_append_of_le_length h]
theorem insL_len {L : List Bs} {s : Bs} {j : Nat} (h : j ≤ L.length) : (insL L s j).length = L.length + 1 := by
  unfold insL; simp; omega
theorem insL_mem {L : List Bs} {s : Bs} {j : Nat} (x : Bs) : x ∈ insL L s j ↔ x = s ∨ x ∈ L := by
  unfold insL
  rw [List.mem_append, List.mem_cons]
  have : x ∈ L ↔ x ∈ L.take j ∨ x ∈ L.drop j := by rw [← List.mem_append, List.take_append_drop]
  rw [this]
  constructor
  · rintro (h | h | h)
    · exact .inr (.inl h)
    · exact .inl h
    · exact .inr (.inr h)
  · rintro (h | h | h)
    · exact .inr (.inl h)
    · exact .inl h
    · exact .inr (.inr h)
theorem RisS.lt {L : List Bs} (h : RisS L) {i j : Nat} (hj : j < L.length) (hij : i < j) : cmpB (L[i]'(by omega)) L[j] < 0 := List.pairwise_iff_getElem.1 h i j (by omega) hj hij
theorem lt_tri : ∀ a b : List UInt8, a < b ∨ a = b ∨ b < a
  | [], [] => .inr (.inl rfl)
  | [], _ :: _ => .inl (by simp)
  | _ :: _, [] => .inr (.inr (by simp))
  | x :: a, y :: b => by
    rw [List.cons_lt_cons_iff, List.cons_lt_cons_iff]
    rcases Nat.lt_trichotomy x.toNat y.toNat with h | h | h
    · exact .inl (.inl (UInt8.lt_iff_toNat_lt.2 h))
    · have e : x = y := UInt8.toNat_inj.1 h
      subst e
      rcases lt_tri a b with h | h | h
      · exact .inl (.inr ⟨rfl, h⟩)
      · exact .inr (.inl (by rw [h]))
      · exact .inr (.inr (.inr ⟨rfl, h⟩))
    · exact .inr (.inr (.inl (UInt8.lt_iff_toNat_lt.2 h)))
theorem cmpB_anti {a b : Bs} (h : 0 < cmpB a b) : cmpB b a < 0 := by
  unfold cmpB at *
  rw [cmpT_lt]
  rcases lt_tri b.data.toList a.data.toList with x | x | x
  · exact x
  · rw [x, cmpT_self] at h; omega
  · rw [← cmpT_lt] at x; omega
theorem RisS.ins {L : List Bs} {s : Bs} {j : Nat} (h : RisS L) (hj : j ≤ L.length) (h1 : ∀ i (hi : i < L.length), j ≤ i → 0 < cmpB L[i] s) (h2 : ∀ (h0 : 0 < j), cmpB (L[j - 1]'(by omega)) s < 0) : RisS (insL L s j) := by
  unfold RisS insL
  rw [List.pairwise_append, List.pairwise_cons]
  have hd : ∀ b ∈ L.drop j, cmpB s b < 0 := fun b hb => by
    obtain ⟨i, hi, rfl⟩ := List.getElem_of_mem hb
    rw [List.getElem_drop]
    exact cmpB_anti (h1 _ _ (by omega))
  have ht : ∀ a ∈ L.take j, cmpB a s < 0 := fun a ha => by
    obtain ⟨i, hi, rfl⟩ := List.getElem_of_mem ha
    rw [List.length_take] at hi
    rw [List.getElem_take]
    have h0 := h2 (by omega)
    by_cases e : i = j - 1
    · subst e; exact h0
    · exact cmpB_tr _ _ _ (h.lt (i := i) (j := j - 1) (by omega) (by omega)) h0
  refine ⟨List.Pairwise.sublist (List.take_sublist _ _) h, ⟨hd, List.Pairwise.sublist (List.drop_sublist _ _) h⟩, fun a ha b hb => ?_⟩
  rcases List.mem_cons.1 hb with rfl | hb
  · exact ht a ha
  · exact cmpB_tr _ _ _ (ht a ha) (hd b hb)

set_option maxRecDepth 100000 in
set_option maxHeartbeats 4000000 in
theorem l5Sorted_any (a : Option Addr) (len cap : Nat) (l : List Bs) (w : World) (hl : len ≤ 100000) (hs : SlS w a len l) (hok : ∀ x ∈ l, ByteArray.size x ≤ maxLen) :
    Calls Tryz.prog 76 #[.slice a len cap] w fun e w' => (∃ v r, e = .returned v ∧ (RisS r ∧ (∀ x, x ∈ r ↔ x ∈ l) ∧ r.length ≤ l.length) ∧ w'.ownsRow w.heap.size 9 1 v r.length (r.map Value.string)) ∧ Below w.heap.size w w' := by
  obtain ⟨i0, hi, hz0, hz1, hz2⟩ := info_parts info_str
  have HS := hide hs
  have HO := hide hok
  have HL := hide hs.1
  clear hs hok
  go_enter Tryz.func76, Tryz.ntmps76
  go_wp2_with fail
  go_loopw [3, 10] (fun v i wr => ∃ (k : Nat) (L : List Bs), k ≤ len ∧ i = .int .i64 k ∧ Hid (wr.ownsRow w.heap.size 9 1 v L.length (L.map Value.string)) ∧ Hid (RisS L) ∧ Hid (∀ x, x ∈ L ↔ x ∈ l.take k) ∧ L.length ≤ k ∧ Hid (Below w.heap.size w wr)) (fun _ i _ => len - (Go.RowKit.intOf i).toNat)
  case atStart => exact ⟨0, [], Nat.zero_le _, rfl, hide (World.ownsRow_nil _ _ _ _), hide List.Pairwise.nil, hide (by simp), Nat.le_refl _, hide (Below.refl _ _)⟩
  case round =>
    obtain ⟨k, L, hk, rfl, hO, hR, hM, hLk, hB⟩ := hrel
    obtain ⟨_, a3, cap3, rfl⟩ := own_slLen (unhide hO)
    by_cases hlt : k < len
    · have hk' : k < l.length := by rw [← unhide HL]; exact hlt
      obtain ⟨b, off, rfl, hrow⟩ := ((unhide HS).keep (unhide hB)).at hlt
      have c0 := hrow.c k hk'
      have zk := hrow.z
      have eT := hide (show ∀ x, x = l[k] ∨ x ∈ L ↔ x ∈ L ∨ x = l[k] from fun x => or_comm)
      replace eT := hide (show ∀ x, x ∈ l.take (k + 1) ↔ x ∈ l.take k ∨ x = l[k] from fun x => by rw [List.take_succ_eq_append_getElem hk', List.mem_append, List.mem_singleton])
      have oL : Hid (∀ x ∈ L, ByteArray.size x ≤ maxLen) := hide (fun x hx => unhide HO x (List.mem_of_mem_take ((unhide hM x).1 hx)))
      clear hrow
      generalize l[k] = A at c0 eT
      go_wp2_with fail
      go_loopw [6] (fun j wx => ∃ q : Nat, q ≤ L.length ∧ j = .int .i64 q ∧ Hid (∀ i (hi : i < L.length), q ≤ i → 0 < cmpB L[i] A) ∧ Hid (Below wr.heap.size wr wx)) (fun j _ => (Go.RowKit.intOf j).toNat)
      case atStart => exact ⟨L.length, Nat.le_refl _, rfl, hide (fun i hi h => absurd hi (by omega)), hide (Below.refl _ _)⟩
      case round =>
        obtain ⟨q, hq, rfl, hGT, hB1⟩ := hrel
        have O2 := hide (own_keep (unhide hO) (unhide hB1))
        have B2 := hide (bTr (unhide hB) (unhide hB1))
        have GT := hGT
        clear hO hB hGT c0
        rcases Nat.eq_zero_or_pos q with hq0 | hq0
        · subst hq0
          have LT : Hid (∀ (h0 : 0 < 0), cmpB (L[0 - 1]'(by omega)) A < 0) := hide (fun h => absurd h (Nat.lt_irrefl _))
          have RI := hide (show RisS (insL L A (0)) from (unhide hR).ins (by omega) (unhide GT) (unhide LT))
          have MI := hide (show ∀ x, x ∈ insL L A (0) ↔ x ∈ l.take (k + 1) from fun x => by rw [insL_mem, unhide eT x, unhide hM x]; exact or_comm)
          have LI := insL_len (L := L) (s := A) (j := 0) (by omega)
          have LE := hide (show 0 ≤ L.length by omega)
          go_wp2_with (at_builtin; refine wpList_append_own_at _ rfl _ _ 24 rfl w.heap.size 9 i0 _ 1 16 Tryz.underlying24 hi hz0 hz1 hz2 rfl (by decide) _ _ _ rfl ((unhide O2).alloc _) ⟨_, 0, none⟩ 1 1 [.string A] rfl rfl (cell_one_at _ _ rfl _ _) (fun x hx => by simp at hx; subst hx; rfl) (by unfold maxLen; omega) (by omega) (by have := (unhide B2).size; simp; omega) ?_; intro v5 w5 hown5 hgrow5 _ _; have N5 := hide hown5; have B5 := hide (below_append (unhide B2) (Nat.le_refl _) (unhide O2) hgrow5); clear hown5 hgrow5; obtain ⟨g5, cap5, ev5, hg5⟩ := own_some (unhide N5) (by omega); subst ev5)
          have N6 := hide (show w5.ownsRow w.heap.size 9 1 (.slice (some ⟨g5, 0, none⟩) (L.length + 1) cap5) (L.length + 1) ((shL L A L.length).map Value.string) by rw [shL_start, List.map_append]; exact unhide N5)
          clear N5 O2 B2
          go_wp2_with fail
          go_loopw [7] (fun m wx => ∃ z : Nat, 0 ≤ z ∧ z ≤ L.length ∧ m = .int .i64 z ∧ Hid (wx.ownsRow w.heap.size 9 1 (.slice (some ⟨g5, 0, none⟩) (L.length + 1) cap5) (L.length + 1) ((shL L A z).map Value.string)) ∧ Hid (Below w.heap.size w wx)) (fun m _ => (Go.RowKit.intOf m).toNat)
          case atStart => exact ⟨L.length, by omega, Nat.le_refl _, by go_num, N6, B5⟩
          case round =>
            clear N6 B5
            obtain ⟨z, hq1, hq2, rfl, hO, hB⟩ := hrel
            by_cases hqj : 0 < z
            · obtain ⟨z, rfl⟩ : ∃ z', z = z' + 1 := ⟨z - 1, by omega⟩
              have hqL : z < L.length := by omega
              have c0 : wr.cell? ⟨g5, z, none⟩ = some (.string L[z]) := by
                rw [(unhide hO).cellAt z (by omega), List.getElem?_map, shL_get_pred hqL]; rfl
              obtain ⟨C2, c1⟩ : ∃ C2, wr.cell? ⟨g5, z + 1, none⟩ = some (.string C2) := ⟨(L ++ [A])[z + 1]'(by simp; omega), by
                rw [(unhide hO).cellAt (z + 1) (by omega), List.getElem?_map, shL_get hq2, List.getElem?_eq_getElem (by simp; omega)]; rfl⟩
              have f1 := (unhide hO).frozenAt (z + 1)
              have zg : g5 < wr.heap.size := ((unhide hO).lt g5 rfl).2
              have St := hide (show (wr.setCell ⟨g5, z + 1, none⟩ (.string L[z])).ownsRow w.heap.size 9 1 (.slice (some ⟨g5, 0, none⟩) (L.length + 1) cap5) (L.length + 1) ((shL L A z).map Value.string) ∧ wr.grownBy (wr.setCell ⟨g5, z + 1, none⟩ (.string L[z])) (some g5) from by
                have h := (unhide hO).stored (z + 1) (.string L[z])
                rw [← map_set_str, shL_step hqL] at h
                exact h)
              have BS := hide ((unhide hB).grown (unhide St).2 (unhide hB).size (fun j h => by cases h; exact hg5))
              have ej : IntKind.i64.wrap ((z : Int) + 1 - 1) = (z : Int) := by rw [IntKind.wrap_i64]; omega
              generalize L[z] = C at c0 St BS
              clear hO hB
              go_wp2_with fail
              exact ⟨⟨z, by omega, by omega, by go_num, hide (unhide St).1, BS⟩, by simp [Go.RowKit.intOf]⟩
            · obtain rfl : z = 0 := by omega
              have ca : (wr.cell? ⟨g5, 0, none⟩).isSome = true := by
                rw [(unhide hO).cellAt _ (by omega), List.getElem?_map, shL_get hq2, List.getElem?_eq_getElem (by simp <;> omega)]; rfl
              obtain ⟨u, hu⟩ := Option.isSome_iff_exists.1 ca
              have f1 := (unhide hO).frozenAt (0)
              have zg : g5 < wr.heap.size := ((unhide hO).lt g5 rfl).2
              have St := hide (show (wr.setCell ⟨g5, 0, none⟩ (.string A)).ownsRow w.heap.size 9 1 (.slice (some ⟨g5, 0, none⟩) (L.length + 1) cap5) (L.length + 1) ((insL L A (0)).map Value.string) ∧ wr.grownBy (wr.setCell ⟨g5, 0, none⟩ (.string A)) (some g5) from by
                have h := (unhide hO).stored (0) (.string A)
                rw [← map_set_str, shL_end hq2] at h
                exact h)
              have BS := hide ((unhide hB).grown (unhide St).2 (unhide hB).size (fun j h => by cases h; exact hg5))
              clear hO hB ca
              go_wp2_with fail
              exact ⟨⟨k + 1, insL L A (0), by omega, by go_num, hide (by rw [LI]; exact (unhide St).1), RI, MI, by omega, BS⟩, by simp [Go.RowKit.intOf]; omega⟩
        · obtain ⟨q, rfl⟩ : ∃ q', q = q' + 1 := ⟨q - 1, by omega⟩
          have hqL : q < L.length := by omega
          obtain ⟨g3, cp, e3, hg3⟩ := own_some (unhide O2) (by omega)
          cases e3
          have d0 : wr.cell? ⟨g3, q, none⟩ = some (.string L[q]) := by
            rw [(unhide O2).cellAt q (by omega)]; simp [hqL]
          have zg : g3 < wr.heap.size := ((unhide O2).lt g3 rfl).2
          have qc := hide (fun w => cmpText_any L[q] A w (unhide oL _ (List.getElem_mem hqL)))
          have ej : IntKind.i64.wrap ((q : Int) + 1 - 1) = (q : Int) := by rw [IntKind.wrap_i64]; omega
          have hi3 : decide ((0 : Int) < (q : Int) + 1) = true := decide_eq_true (by omega)
          have eG : Hid (0 < cmpB L[q] A → ∀ i (hi : i < L.length), q ≤ i → 0 < cmpB L[i] A) := hide (fun h i hi h1 => by
            by_cases e : i = q
            · subst e; exact h
            · exact unhide GT i hi (by omega))
          have LT0 : Hid (cmpB L[q] A < 0 → ∀ (h0 : 0 < q + 1), cmpB (L[q + 1 - 1]'(by omega)) A < 0) := hide (fun h _ => h)
          have EQ : Hid (cmpB L[q] A = 0 → L[q] = A ∧ A ∈ L) := hide (fun h => ⟨cmpB_zero h, cmpB_zero h ▸ List.getElem_mem hqL⟩)
          have NQ : Hid (cmpB L[q] A < 0 → ¬ L[q] = A) := hide (fun h e => by rw [e] at h; exact cmpB_irr A h)
          unfold cmpB at eG LT0 EQ NQ
          generalize hV : cmpT (L[q]).data.toList A.data.toList = V at qc eG LT0 EQ NQ
          clear hV
          go_wp2_with fail
          refine (unhide qc _).mono ?_
          rintro e w4 ⟨rfl, hb4⟩
          have O4 := hide (own_keep (unhide O2) hb4)
          have B4 := hide (bTr (unhide B2) hb4)
          have d4 : w4.cell? ⟨g3, q, none⟩ = some (.string L[q]) := by
            rw [(unhide O4).cellAt q (by omega)]; simp [hqL]
          have z4 : g3 < w4.heap.size := ((unhide O4).lt g3 rfl).2
          have BB := hide hb4
          clear hb4 O2 B2 qc d0 zg
          rcases Int.lt_trichotomy V 0 with hv | hv | hv
          · have dv : decide ((0 : Int) < V) = false := decide_eq_false (by omega)
            have LT := hide (unhide LT0 hv)
            have hne := str_ne (unhide NQ hv)
            have O2 := O4
            have B2 := B4
            clear eG LT0 EQ NQ O4 B4 BB
            generalize L[q] = C at d4 hne
            have RI := hide (show RisS (insL L A (q + 1)) from (unhide hR).ins (by omega) (unhide GT) (unhide LT))
            have MI := hide (show ∀ x, x ∈ insL L A (q + 1) ↔ x ∈ l.take (k + 1) from fun x => by rw [insL_mem, unhide eT x, unhide hM x]; exact or_comm)
            have LI := insL_len (L := L) (s := A) (j := q + 1) (by omega)
            have LE := hide (show q + 1 ≤ L.length by omega)
            go_wp2_with (at_builtin; refine wpList_append_own_at _ rfl _ _ 24 rfl w.heap.size 9 i0 _ 1 16 Tryz.underlying24 hi hz0 hz1 hz2 rfl (by decide) _ _ _ rfl ((unhide O2).alloc _) ⟨_, 0, none⟩ 1 1 [.string A] rfl rfl (cell_one_at _ _ rfl _ _) (fun x hx => by simp at hx; subst hx; rfl) (by unfold maxLen; omega) (by omega) (by have := (unhide B2).size; simp; omega) ?_; intro v5 w5 hown5 hgrow5 _ _; have N5 := hide hown5; have B5 := hide (below_append (unhide B2) (Nat.le_refl _) (unhide O2) hgrow5); clear hown5 hgrow5; obtain ⟨g5, cap5, ev5, hg5⟩ := own_some (unhide N5) (by omega); subst ev5)
            have N6 := hide (show w5.ownsRow w.heap.size 9 1 (.slice (some ⟨g5, 0, none⟩) (L.length + 1) cap5) (L.length + 1) ((shL L A L.length).map Value.string) by rw [shL_start, List.map_append]; exact unhide N5)
            clear N5 O2 B2
            go_wp2_with fail
            go_loopw [7] (fun m wx => ∃ z : Nat, q + 1 ≤ z ∧ z ≤ L.length ∧ m = .int .i64 z ∧ Hid (wx.ownsRow w.heap.size 9 1 (.slice (some ⟨g5, 0, none⟩) (L.length + 1) cap5) (L.length + 1) ((shL L A z).map Value.string)) ∧ Hid (Below w.heap.size w wx)) (fun m _ => (Go.RowKit.intOf m).toNat)
            case atStart => exact ⟨L.length, by omega, Nat.le_refl _, by go_num, N6, B5⟩
            case round =>
              clear N6 B5
              obtain ⟨z, hq1, hq2, rfl, hO, hB⟩ := hrel
              by_cases hqj : q + 1 < z
              · obtain ⟨z, rfl⟩ : ∃ z', z = z' + 1 := ⟨z - 1, by omega⟩
                have hqL : z < L.length := by omega
                have c0 : wr.cell? ⟨g5, z, none⟩ = some (.string L[z]) := by
                  rw [(unhide hO).cellAt z (by omega), List.getElem?_map, shL_get_pred hqL]; rfl
                obtain ⟨C2, c1⟩ : ∃ C2, wr.cell? ⟨g5, z + 1, none⟩ = some (.string C2) := ⟨(L ++ [A])[z + 1]'(by simp; omega), by
                  rw [(unhide hO).cellAt (z + 1) (by omega), List.getElem?_map, shL_get hq2, List.getElem?_eq_getElem (by simp; omega)]; rfl⟩
                have f1 := (unhide hO).frozenAt (z + 1)
                have zg : g5 < wr.heap.size := ((unhide hO).lt g5 rfl).2
                have St := hide (show (wr.setCell ⟨g5, z + 1, none⟩ (.string L[z])).ownsRow w.heap.size 9 1 (.slice (some ⟨g5, 0, none⟩) (L.length + 1) cap5) (L.length + 1) ((shL L A z).map Value.string) ∧ wr.grownBy (wr.setCell ⟨g5, z + 1, none⟩ (.string L[z])) (some g5) from by
                  have h := (unhide hO).stored (z + 1) (.string L[z])
                  rw [← map_set_str, shL_step hqL] at h
                  exact h)
                have BS := hide ((unhide hB).grown (unhide St).2 (unhide hB).size (fun j h => by cases h; exact hg5))
                have ej : IntKind.i64.wrap ((z : Int) + 1 - 1) = (z : Int) := by rw [IntKind.wrap_i64]; omega
                generalize L[z] = C at c0 St BS
                clear hO hB
                go_wp2_with fail
                exact ⟨⟨z, by omega, by omega, by go_num, hide (unhide St).1, BS⟩, by simp [Go.RowKit.intOf]⟩
              · obtain rfl : z = q + 1 := by omega
                have ca : (wr.cell? ⟨g5, q + 1, none⟩).isSome = true := by
                  rw [(unhide hO).cellAt _ (by omega), List.getElem?_map, shL_get hq2, List.getElem?_eq_getElem (by simp <;> omega)]; rfl
                obtain ⟨u, hu⟩ := Option.isSome_iff_exists.1 ca
                have f1 := (unhide hO).frozenAt (q + 1)
                have zg : g5 < wr.heap.size := ((unhide hO).lt g5 rfl).2
                have St := hide (show (wr.setCell ⟨g5, q + 1, none⟩ (.string A)).ownsRow w.heap.size 9 1 (.slice (some ⟨g5, 0, none⟩) (L.length + 1) cap5) (L.length + 1) ((insL L A (q + 1)).map Value.string) ∧ wr.grownBy (wr.setCell ⟨g5, q + 1, none⟩ (.string A)) (some g5) from by
                  have h := (unhide hO).stored (q + 1) (.string A)
                  rw [← map_set_str, shL_end hq2] at h
                  exact h)
                have BS := hide ((unhide hB).grown (unhide St).2 (unhide hB).size (fun j h => by cases h; exact hg5))
                clear hO hB ca
                go_wp2_with fail
                exact ⟨⟨k + 1, insL L A (q + 1), by omega, by go_num, hide (by rw [LI]; exact (unhide St).1), RI, MI, by omega, BS⟩, by simp [Go.RowKit.intOf]; omega⟩
          · subst hv
            have dv : decide ((0 : Int) < 0) = false := rfl
            obtain ⟨e1, e2⟩ := unhide EQ rfl
            have MI := hide (show ∀ x, x ∈ L ↔ x ∈ l.take (k + 1) from fun x => by
              rw [unhide eT x, ← unhide hM x]
              refine ⟨.inl, fun h => ?_⟩
              rcases h with h | rfl
              · exact h
              · exact e2)
            have heq := str_eq A
            clear eG LT0 EQ NQ BB
            rw [e1] at d4
            clear e1 e2
            go_wp2_with fail
            exact ⟨⟨k + 1, L, by omega, by go_num, O4, hR, MI, by omega, B4⟩, by simp [Go.RowKit.intOf]; omega⟩
          · have dv : decide ((0 : Int) < V) = true := decide_eq_true hv
            have G2 := hide (unhide eG hv)
            clear eG LT0 EQ NQ
            generalize L[q] = C at d4
            go_wp2_with fail
            exact ⟨⟨q, by omega, by go_num, G2, hide (bTr (unhide hB1) (unhide BB))⟩, by simp [Go.RowKit.intOf]⟩
    · have ek : k = l.length := by rw [← unhide HL]; omega
      subst ek
      have MM := hide (show ∀ x, x ∈ L ↔ x ∈ l from fun x => by rw [unhide hM x, List.take_length])
      go_wp2_with fail
      go_ret
      exact ⟨⟨_, L, rfl, ⟨unhide hR, unhide MM, hLk⟩, unhide hO⟩, unhide hB⟩
end Go.Proofs.YtfbncneeimikcaaGreat
