/- spec.l3Rising, l15Role, l15All. -/
import Derived.Test.YtfabfgokammmhaaOPu
import Derived.Test.YtfabfgokammmhaaWCmp
import Derived.Test.YtfabfgokammmhaaWValJ
import Derived.BigQuiet
namespace Go.Proofs.Ytfabfgokammmhaa.V
set_option linter.unusedSimpArgs false
set_option linter.unusedVariables false
open Go.RowKit Go.Maps

theorem str_neO {a b : ByteArray} (h : ¬ a = b) : (ByteArray.toList a == ByteArray.toList b) = false := by
  have : ¬ a.toList = b.toList := fun e => h (by
    rw [ByteArray.toList_eq, ByteArray.toList_eq] at e
    exact Go.WideShapes.bytes_inj e)
  simpa using this
theorem str_eqO (a : ByteArray) : (ByteArray.toList a == ByteArray.toList a) = true := by simp
theorem find_atO {E : Type} {p : E → Bool} {l : List E} {k : Nat} (hk : k < l.length) (h1 : ∀ i (h : i < l.length), i < k → p l[i] = false) (h2 : p l[k] = true) : l.find? p = some l[k] := by
  induction l generalizing k with
  | nil => cases hk
  | cons x l ih =>
    rw [List.find?_cons]
    cases k with
    | zero => simp at h2; simp [h2]
    | succ k =>
      have h0 := h1 0 (by simp) (by omega)
      simp at h0
      simp [h0]
      exact ih (by simpa using hk) (fun i hi hik => by have := h1 (i + 1) (by simpa using hi) (by omega); simpa using this) (by simpa using h2)
set_option maxRecDepth 20000 in
set_option maxHeartbeats 4000000 in
theorem l3Rising_n (h : Hd) (l : List ByteArray) (w : World) (hl : l.length ≤ maxLen) (ho : ∀ q ∈ l, ByteArray.size q ≤ maxLen) (hs : SqS w 0 h l) :
    Calls Try.prog 15 #[.slice h.a h.len h.cap] w fun e w' => RetB e (∀ i (h : i + 1 < l.length), cmpT l[i].data.toList l[i + 1].data.toList < 0) ∧ Below w.heap.size w w' := by
  have qq : ∀ x ∈ l, ∀ y ∈ l, ∀ w' : World, Below w.heap.size w w' → Calls Try.prog 14 #[.string x, .string y] w' fun e w'' => e = .returned (.int .i64 (cmpT x.data.toList y.data.toList)) ∧ Below w'.heap.size w' w'' := fun x hx y _ w' _ => cmpText_any x y w' (ho x hx)
  have HS := hide hs
  have HQ := hide qq
  have HL := hide hs.1
  have hlm : h.len ≤ maxLen := by rw [hs.1]; exact hl
  unfold maxLen at hlm
  obtain ⟨a, len, cap⟩ := h
  simp only at hlm HL
  clear hs qq hl
  go_enter Try.func15, Try.ntmps15
  go_wp2
  go_loopw [3] (fun i w' => ∃ k : Nat, 1 ≤ k ∧ (k ≤ len ∨ k = 1) ∧ i = .int .i64 k ∧ Hid (Below w.heap.size w w') ∧ Hid (∀ i (h : i + 1 < l.length), i + 1 < k → cmpT l[i].data.toList l[i + 1].data.toList < 0)) (fun i _ => len - (Go.RowKit.intOf i).toNat)
  case atStart => exact ⟨1, Nat.le_refl _, .inr rfl, rfl, hide (Below.refl _ _), hide (fun i _ h => absurd h (by omega))⟩
  case round =>
    obtain ⟨k, hk1, hk, rfl, hb, hris⟩ := hrel
    by_cases hlt : k < len
    · obtain ⟨j, rfl⟩ : ∃ j, k = j + 1 := ⟨k - 1, by omega⟩
      have hk' : j + 1 < l.length := by have := unhide HL; omega
      have hj : j < l.length := by omega
      obtain ⟨bb_, off, e0, hrow⟩ := ((unhide HS).keep (unhide hb)).sl.at hlt
      simp only at e0
      subst e0
      have p0 := hrow.c (j + 1) hk'
      have o0 := hrow.c j hj
      have zk := hrow.z
      have qc := hide (fun (q : Kept wr) => unhide HQ l[j] (List.getElem_mem hj) l[j + 1] (List.getElem_mem hk') q.w (bTr (unhide hb) q.h))
      have stepR : Hid (cmpT l[j].data.toList l[j + 1].data.toList < 0 → ∀ i (h : i + 1 < l.length), i + 1 < j + 1 + 1 → cmpT l[i].data.toList l[i + 1].data.toList < 0) := hide (fun g i hi h1 => by
        rcases Nat.lt_or_ge i j with h2 | h2
        · exact unhide hris i hi (by omega)
        · obtain rfl : i = j := by omega
          exact g)
      have noR : Hid (¬ cmpT l[j].data.toList l[j + 1].data.toList < 0 → ¬ ∀ i (h : i + 1 < l.length), cmpT l[i].data.toList l[i + 1].data.toList < 0) := hide (fun g h => g (h j hk'))
      clear hrow hris
      generalize cmpT l[j].data.toList l[j + 1].data.toList = cc at qc stepR noR
      generalize l[j + 1] = P at p0 qc
      generalize l[j] = Q at o0 qc
      have ne : Nonempty (Kept wr) := ⟨⟨wr, Below.refl _ _⟩⟩
      have x0 := kept_cell zk p0
      have y0 := kept_cell zk o0
      have ej : IntKind.i64.wrap ((j : Int) + 1 - 1) = (j : Int) := by rw [IntKind.wrap_i64]; omega
      have i0 : (0 : Int) ≤ (j : Int) := by omega
      have i1 : (j : Int) < (len : Int) := by omega
      have i2 : (j : Int) + 1 < (len : Int) := by omega
      clear p0 o0 zk
      by_cases hc : cc < 0
      · have dc : decide (0 ≤ cc) = false := by simp; omega
        replace stepR := hide (unhide stepR hc)
        clear hc noR
        go_wp2_with fail
        refine wp_region_kept (by kernel_rfl) (by kernel_rfl) ?_
        repeat (first
          | go_big_quiet_step ((go_at_call 14; exact kept_call (unhide qc _)))
          | quiet_step ((go_at_call 14; exact kept_call (unhide qc _))))
        refine wpQuiet_nil ?_
        rintro _ ⟨q, rfl⟩
        go_wp2_with fail
        exact ⟨⟨j + 1 + 1, by omega, by omega, by go_num, hide (bTr (unhide hb) q.h), stepR⟩, by simp [Go.RowKit.intOf]; omega⟩
      · have dc : decide (0 ≤ cc) = true := by simp; omega
        replace noR := hide (unhide noR hc)
        clear hc stepR
        go_wp2_with fail
        refine wp_region_kept (by kernel_rfl) (by kernel_rfl) ?_
        repeat (first
          | go_big_quiet_step ((go_at_call 14; exact kept_call (unhide qc _)))
          | quiet_step ((go_at_call 14; exact kept_call (unhide qc _))))
        refine wpQuiet_nil ?_
        rintro _ ⟨q, rfl⟩
        go_wp2_with fail
        go_ret
        exact ⟨retB (b := false) ⟨fun h => (by cases h), fun h => absurd h (unhide noR)⟩, bTr (unhide hb) q.h⟩
    · have hR : Hid (∀ i (h : i + 1 < l.length), cmpT l[i].data.toList l[i + 1].data.toList < 0) := hide (fun i h => unhide hris i h (by have := unhide HL; omega))
      clear hris
      go_wp2_with fail
      go_ret
      exact ⟨retB (b := true) ⟨fun _ => unhide hR, fun _ => rfl⟩, unhide hb⟩
set_option maxRecDepth 20000 in
set_option maxHeartbeats 4000000 in
theorem l15Role_n (h0 h1 h2 : Hd) (l : List RoleE) (s : ByteArray) (w : World) (hl : l.length ≤ maxLen) (hs : SqRoleE w 0 h0 l) :
    Calls Try.prog 27 #[.agg #[.slice h0.a h0.len h0.cap, .slice h1.a h1.len h1.cap, .slice h2.a h2.len h2.cap], .string s] w fun r w' => (∃ (x : RoleE) (b : Bool), r = .returned (.tuple #[.agg #[.string x.t.f0, .slice x.h1.a x.h1.len x.h1.cap, .slice x.h2.a x.h2.len x.h2.cap], .bool b]) ∧ l.find? (fun c => decide (c.t.f0 = s)) = (if b = true then some x else none) ∧ (b = false → x.h1 = ⟨none, 0, 0⟩ ∧ x.h2 = ⟨none, 0, 0⟩)) ∧ Below w.heap.size w w' := by
  have HL := hide hs.1
  have LM : h0.len ≤ maxLen := by rw [hs.1]; exact hl
  unfold maxLen at LM
  obtain ⟨FD, hFD⟩ : ∃ FD, FD = l.find? (fun c => decide (c.t.f0 = s)) := ⟨_, rfl⟩
  have HFD := hide hFD
  rw [← hFD]
  have HS := hide hs
  have R := hide ((RowIs.new w #[.slice h0.a h0.len h0.cap, .slice h1.a h1.len h1.cap, .slice h2.a h2.len h2.cap] 32).keep (bAl (Below.refl _ _) (.cells #[.string ⟨#[]⟩, .slice none 0 0, .slice none 0 0] 41)))
  have Z : Hid (RowIs ((w.alloc (.cells #[.slice h0.a h0.len h0.cap, .slice h1.a h1.len h1.cap, .slice h2.a h2.len h2.cap] 32)).alloc (.cells #[.string ⟨#[]⟩, .slice none 0 0, .slice none 0 0] 41)) (w.heap.size + 1) #[.string ⟨#[]⟩, .slice none 0 0, .slice none 0 0] 41) := hide (by have := RowIs.new (w.alloc (.cells #[.slice h0.a h0.len h0.cap, .slice h1.a h1.len h1.cap, .slice h2.a h2.len h2.cap] 32)) #[.string ⟨#[]⟩, .slice none 0 0, .slice none 0 0] 41; simpa using this)
  have B := hide (bAl (bAl (Below.refl w.heap.size w) (.cells #[.slice h0.a h0.len h0.cap, .slice h1.a h1.len h1.cap, .slice h2.a h2.len h2.cap] 32)) (.cells #[.string ⟨#[]⟩, .slice none 0 0, .slice none 0 0] 41))
  obtain ⟨W0, hW0⟩ : ∃ W, W = (w.alloc (.cells #[.slice h0.a h0.len h0.cap, .slice h1.a h1.len h1.cap, .slice h2.a h2.len h2.cap] 32)).alloc (.cells #[.string ⟨#[]⟩, .slice none 0 0, .slice none 0 0] 41) := ⟨_, rfl⟩
  have HW := hide hW0
  rw [← hW0] at R Z B
  clear hs hl hW0 hFD
  go_enter Try.func27, Try.ntmps27
  go_wp2_with fail
  rw [← unhide HW]
  clear HW
  go_loopw [11] (fun i w' => ∃ k : Nat, k ≤ h0.len ∧ i = .int .i64 k ∧ Hid (Below w.heap.size w w') ∧ Hid (RowIs w' (w.heap.size + 1) #[.string ⟨#[]⟩, .slice none 0 0, .slice none 0 0] 41) ∧ Hid (∀ i (h : i < l.length), i < k → ¬ l[i].t.f0 = s)) (fun i _ => h0.len - (Go.RowKit.intOf i).toNat)
  case atStart => exact ⟨0, Nat.zero_le _, rfl, B, Z, hide (fun i _ h => absurd h (Nat.not_lt_zero _))⟩
  case round =>
    clear B Z R
    obtain ⟨k, hk, rfl, B, Z, hA⟩ := hrel
    by_cases hlt : k < h0.len
    case neg =>
      have no : Hid (FD = none) := hide (by
        rw [unhide HFD]
        refine List.find?_eq_none.2 fun e he hd => ?_
        obtain ⟨i, hi, rfl⟩ := List.getElem_of_mem he
        exact unhide hA i hi (by have := unhide HL; omega) (by simpa using hd))
      have k0 := (unhide Z).at (o := 0) (v := .string ⟨#[]⟩) rfl
      have k1 := (unhide Z).at (o := 1) (v := .slice none 0 0) rfl
      have k2 := (unhide Z).at (o := 2) (v := .slice none 0 0) rfl
      have g0 := (unhide Z).froz 0
      have g1 := (unhide Z).froz 1
      have g2 := (unhide Z).froz 2
      clear hA HFD
      go_wp2_with fail
      refine bodyPost_ret (v := .tuple #[.agg #[.string ⟨#[]⟩, .slice none 0 0, .slice none 0 0], .bool false]) (by simp [results, Try.results27, go_sem, k0, k1, k2]) rfl ⟨⟨⟨⟨⟨#[]⟩, [], []⟩, ⟨none, 0, 0⟩, ⟨none, 0, 0⟩⟩, false, rfl, by rw [unhide no]; rfl, fun _ => ⟨rfl, rfl⟩⟩, ?_⟩
      repeat refine bSt ?_ (by omega) _ _
      exact unhide B
    have hk' : k < l.length := by have := unhide HL; omega
    obtain ⟨b1, off1, e1, row1⟩ := ((unhide HS).keep (unhide B)).at hlt
    have c0 := row1.c0 k hk'
    have c1 := row1.c1 k hk'
    have c2 := row1.c2 k hk'
    have YES : Hid (l[k].t.f0 = s → FD = some l[k]) := hide (fun h => by
      rw [unhide HFD]
      exact find_atO hk' (fun i hi hik => by simpa using unhide hA i hi hik) (by simpa using h))
    have STP : Hid (¬ l[k].t.f0 = s → ∀ i (h : i < l.length), i < k + 1 → ¬ l[i].t.f0 = s) := hide (fun g i hi h1 => by
      rcases Nat.lt_or_ge i k with h2 | h2
      · exact unhide hA i hi h2
      · obtain rfl : i = k := by omega
        exact g)
    clear row1 hA HFD
    generalize l[k] = A at *
    generalize h0.a = aa at e1 ⊢
    subst e1
    have BN := hide (bAl (unhide B) (.cells #[.string A.t.f0, .slice A.h1.a A.h1.len A.h1.cap, .slice A.h2.a A.h2.len A.h2.cap] 41))
    have ZN := hide ((unhide Z).keep (bAl (Below.refl _ _) (.cells #[.string A.t.f0, .slice A.h1.a A.h1.len A.h1.cap, .slice A.h2.a A.h2.len A.h2.cap] 41)))
    by_cases he : A.t.f0 = s
    · have yes := hide (unhide YES he)
      have e : (A.t.f0.toList == s.toList) = true := by rw [he]; exact str_eqO _
      have k0 := (unhide Z).at (o := 0) (v := .string ⟨#[]⟩) rfl
      have k1 := (unhide Z).at (o := 1) (v := .slice none 0 0) rfl
      have k2 := (unhide Z).at (o := 2) (v := .slice none 0 0) rfl
      have g0 := (unhide Z).froz 0
      have g1 := (unhide Z).froz 1
      have g2 := (unhide Z).froz 2
      have zz : w.heap.size + 1 < wr.heap.size := (unhide Z).lt
      have ZF := (((unhide Z).set 0 (.string A.t.f0)).set 1 (.slice A.h1.a A.h1.len A.h1.cap)).set 2 (.slice A.h2.a A.h2.len A.h2.cap)
      simp only [List.setIfInBounds_toArray, List.set_cons_zero, List.set_cons_succ] at ZF
      have ZG := ZF.keep (bAl (Below.refl _ _) (.cells #[.string A.t.f0, .slice A.h1.a A.h1.len A.h1.cap, .slice A.h2.a A.h2.len A.h2.cap] 41))
      have f0 := ZG.at (o := 0) (v := .string A.t.f0) rfl
      have f1 := ZG.at (o := 1) (v := .slice A.h1.a A.h1.len A.h1.cap) rfl
      have f2 := ZG.at (o := 2) (v := .slice A.h2.a A.h2.len A.h2.cap) rfl
      have F := hide (And.intro f0 (And.intro f1 f2))
      clear he YES STP ZF ZG f0 f1 f2
      go_wp2_with fail
      obtain ⟨f0, f1, f2⟩ := unhide F
      refine bodyPost_ret (v := .tuple #[.agg #[.string A.t.f0, .slice A.h1.a A.h1.len A.h1.cap, .slice A.h2.a A.h2.len A.h2.cap], .bool true]) (by simp [results, Try.results27, go_sem, f0, f1, f2]) rfl ⟨⟨A, true, rfl, by rw [unhide yes]; rfl, fun h => (by cases h)⟩, ?_⟩
      refine bAl ?_ _
      repeat refine bSt ?_ (by omega) _ _
      exact unhide B
    · have S := hide (unhide STP he)
      have e := str_neO he
      clear he YES STP
      go_wp2_with fail
      exact ⟨⟨k + 1, by omega, by go_num, BN, ZN, S⟩, by simp [Go.RowKit.intOf]; omega⟩
set_option maxRecDepth 20000 in
set_option maxHeartbeats 4000000 in
theorem l15All_n (h0 h1 h2 : Hd) (rs : List RoleE) (h : Hd) (l : List ByteArray) (w : World) (lt : rs.length ≤ maxLen) (ll : l.length ≤ maxLen) (ho : ∀ q ∈ l, ByteArray.size q ≤ maxLen) (st : SqRoleE w 0 h0 rs) (sl : SqS w 0 h l) :
    Calls Try.prog 12 #[.agg #[.slice h0.a h0.len h0.cap, .slice h1.a h1.len h1.cap, .slice h2.a h2.len h2.cap], .slice h.a h.len h.cap] w fun r w' => RetB r (AllR (nms (rs.map (·.t))) l) ∧ Below w.heap.size w w' := by
  have q1 : Hid (∀ (s : ByteArray) (w' : World) (hb : Below w.heap.size w w'), Calls Try.prog 27 #[.agg #[.slice h0.a h0.len h0.cap, .slice h1.a h1.len h1.cap, .slice h2.a h2.len h2.cap], .string s] w' fun r w'' => (∃ (x : RoleE) (b : Bool), r = .returned (.tuple #[.agg #[.string x.t.f0, .slice x.h1.a x.h1.len x.h1.cap, .slice x.h2.a x.h2.len x.h2.cap], .bool b]) ∧ (b = true ↔ s ∈ nms (rs.map (·.t)))) ∧ Below w'.heap.size w' w'') := hide (fun s w' hb => (l15Role_n h0 h1 h2 rs s w' lt (st.keep hb)).mono fun e w'' ⟨⟨x, b, h, hf, _⟩, hb2⟩ => ⟨⟨x, b, h, by
    cases b
    · refine ⟨fun h => (by cases h), fun h => ?_⟩
      have hf' : rs.find? (fun c => decide (c.t.f0 = s)) = none := by rw [hf]; rfl
      unfold nms at h
      rw [List.map_map] at h
      obtain ⟨y, hy, e⟩ := List.mem_map.1 h
      have := (List.find?_eq_none.1 hf') y hy
      simp at e
      simp [e] at this
    · refine ⟨fun _ => ?_, fun _ => rfl⟩
      have hf' : rs.find? (fun c => decide (c.t.f0 = s)) = some x := by rw [hf]; rfl
      have h1 := List.mem_of_find?_eq_some hf'
      have h2 := List.find?_some hf'
      simp at h2
      unfold nms
      rw [List.map_map]
      exact List.mem_map.2 ⟨x, h1, h2⟩⟩, hb2⟩)
  have q2 := hide (fun (w' : World) (hb : Below w.heap.size w w') => l3Rising_n h l w' ll ho (sl.keep hb))
  have D : Hid (AllR (nms (rs.map (·.t))) l ↔ ((∀ s ∈ l, s ∈ nms (rs.map (·.t))) ∧ RisT l)) := hide Iff.rfl
  generalize AllR (nms (rs.map (·.t))) l = G at D ⊢
  generalize nms (rs.map (·.t)) = ns at D q1
  have HL := hide sl.1
  have LM : h.len ≤ maxLen := by rw [sl.1]; exact ll
  unfold maxLen at LM
  have SL := hide sl
  have R := hide (RowIs.new w #[.slice h0.a h0.len h0.cap, .slice h1.a h1.len h1.cap, .slice h2.a h2.len h2.cap] 32)
  have B := hide (bAl (Below.refl w.heap.size w) (.cells #[.slice h0.a h0.len h0.cap, .slice h1.a h1.len h1.cap, .slice h2.a h2.len h2.cap] 32))
  clear lt ll ho st sl
  obtain ⟨a, len, cap⟩ := h
  simp only at HL LM
  go_enter Try.func12, Try.ntmps12
  go_wp2_with fail
  go_loopw [11] (fun i w' => ∃ k : Nat, k ≤ len ∧ i = .int .i64 k ∧ Hid (Below w.heap.size w w') ∧ Hid (RowIs w' w.heap.size #[.slice h0.a h0.len h0.cap, .slice h1.a h1.len h1.cap, .slice h2.a h2.len h2.cap] 32) ∧ Hid (∀ i (h : i < l.length), i < k → l[i] ∈ ns)) (fun i _ => len - (Go.RowKit.intOf i).toNat)
  case atStart => exact ⟨0, Nat.zero_le _, rfl, B, R, hide (fun i _ h => absurd h (Nat.not_lt_zero _))⟩
  case round =>
    clear B R
    obtain ⟨k, hk, rfl, B, R, hA⟩ := hrel
    by_cases hlt : k < len
    case neg =>
      have ALL : Hid (∀ s ∈ l, s ∈ ns) := hide (fun s hs => by
        obtain ⟨i, hi, rfl⟩ := List.getElem_of_mem hs
        exact unhide hA i hi (by have := unhide HL; omega))
      clear hA q1
      go_wp2_with fail
      refine (unhide q2 _ (unhide B)).mono ?_
      rintro r w1 ⟨⟨v, rfl, hv⟩, hb⟩
      have HV := hide hv
      replace B := hide (bTr (unhide B) hb)
      clear hb hv q2
      go_wp2_with fail
      go_ret
      exact ⟨retB (b := v) ((unhide HV).trans ⟨fun h => (unhide D).2 ⟨unhide ALL, h⟩, fun h => ((unhide D).1 h).2⟩), unhide B⟩
    have hk' : k < l.length := by have := unhide HL; omega
    obtain ⟨b1, off1, e1, row1⟩ := ((unhide SL).keep (unhide B)).sl.at hlt
    simp only at e1
    subst e1
    have n0 := row1.c k hk'
    have r0 := (unhide R).at (o := 0) (v := .slice h0.a h0.len h0.cap) rfl
    have r1 := (unhide R).at (o := 1) (v := .slice h1.a h1.len h1.cap) rfl
    have r2 := (unhide R).at (o := 2) (v := .slice h2.a h2.len h2.cap) rfl
    have q3 := hide (unhide q1 l[k])
    have NOP : Hid (¬ l[k] ∈ ns → ¬ G) := hide (fun g h => g (((unhide D).1 h).1 _ (List.getElem_mem hk')))
    have STP : Hid (l[k] ∈ ns → ∀ i (h : i < l.length), i < k + 1 → l[i] ∈ ns) := hide (fun g i hi h1 => by
      rcases Nat.lt_or_ge i k with h2 | h2
      · exact unhide hA i hi h2
      · obtain rfl : i = k := by omega
        exact g)
    clear row1 hA
    generalize (l[k] ∈ ns) = PP at q3 NOP STP
    generalize l[k] = s at *
    go_wp2_with fail
    refine (unhide q3 _ (unhide B)).mono ?_
    rintro r w1 ⟨⟨x, b, rfl, hv⟩, hb⟩
    have HV := hide hv
    replace R := hide (((unhide R).keep hb).keep (bAl (Below.refl _ _) (.cells #[.string x.t.f0, .slice x.h1.a x.h1.len x.h1.cap, .slice x.h2.a x.h2.len x.h2.cap] 41)))
    replace B := hide (bAl (bTr (unhide B) hb) (.cells #[.string x.t.f0, .slice x.h1.a x.h1.len x.h1.cap, .slice x.h2.a x.h2.len x.h2.cap] 41))
    clear hb hv q3 n0 r0 r1 r2
    cases b
    · have no := hide (unhide NOP (fun h => by have := (unhide HV).2 h; cases this))
      clear NOP STP HV D
      go_wp2_with fail
      go_ret
      exact ⟨retB (b := false) ⟨fun h => (by cases h), fun h => absurd h (unhide no)⟩, unhide B⟩
    · have S := hide (unhide STP ((unhide HV).1 rfl))
      clear NOP STP HV
      go_wp2_with fail
      exact ⟨⟨k + 1, by omega, by go_num, B, R, S⟩, by simp [Go.RowKit.intOf]; omega⟩
end Go.Proofs.Ytfabfgokammmhaa.V
