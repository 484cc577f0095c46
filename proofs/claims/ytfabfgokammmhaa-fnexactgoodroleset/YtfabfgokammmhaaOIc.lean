/- impl.roleIndex: learnJuniors. -/
import Derived.Test.YtfabfgokammmhaaOIb
import Derived.Test.YtfabfgokammmhaaOSb
import Derived.BigQuiet
namespace Go.Proofs.Ytfabfgokammmhaa.V
set_option linter.unusedSimpArgs false
set_option linter.unusedVariables false
open Go.RowKit Go.Maps

/-- x is a role or comes under it. -/
def jmem (rs : List RoleT) (s x : ByteArray) : Prop := x = s ∨ Rch rs s x
/-- The edges of the first k roles, and of the k-th the first m. -/
def edK (rs : List RoleE) (k m : Nat) (p : ByteArray × ByteArray) : Prop := (∃ i, ∃ h : i < rs.length, i < k ∧ rs[i].t.f0 = p.1 ∧ p.2 ∈ rs[i].t.f1) ∨ (∃ h : k < rs.length, rs[k].t.f0 = p.1 ∧ ∃ j, ∃ h' : j < rs[k].t.f1.length, j < m ∧ rs[k].t.f1[j] = p.2)
theorem edK_zero (rs : List RoleE) (p : ByteArray × ByteArray) : ¬ edK rs 0 0 p := by
  rintro (⟨i, _, h, _⟩ | ⟨_, _, j, _, h, _⟩)
  · omega
  · omega
theorem edK_next {rs : List RoleE} {k m : Nat} (hk : k < rs.length) (hm : m = rs[k].t.f1.length) (p : ByteArray × ByteArray) : edK rs (k + 1) 0 p ↔ edK rs k m p := by
  constructor
  · rintro (⟨i, hi, h1, h2, h3⟩ | ⟨_, _, j, _, h, _⟩)
    · by_cases e : i = k
      · subst e
        obtain ⟨j, hj, e⟩ := List.getElem_of_mem h3
        exact .inr ⟨hi, h2, j, hj, by omega, e⟩
      · exact .inl ⟨i, hi, by omega, h2, h3⟩
    · omega
  · rintro (⟨i, hi, h1, h2⟩ | ⟨h1, h2, j, hj, h3, h4⟩)
    · exact .inl ⟨i, hi, by omega, h2⟩
    · exact .inl ⟨k, hk, by omega, h2, by rw [← h4]; exact List.getElem_mem hj⟩
theorem edK_one {rs : List RoleE} {k m : Nat} (hk : k < rs.length) (hm : m < rs[k].t.f1.length) (p : ByteArray × ByteArray) : edK rs k (m + 1) p ↔ p = (rs[k].t.f0, rs[k].t.f1[m]) ∨ edK rs k m p := by
  constructor
  · rintro (h | ⟨h1, h2, j, hj, h3, h4⟩)
    · exact .inr (.inl h)
    · by_cases e : j = m
      · subst e; exact .inl (Prod.ext h2.symm h4.symm)
      · exact .inr (.inr ⟨h1, h2, j, hj, by omega, h4⟩)
  · rintro (rfl | h | ⟨h1, h2, j, hj, h3, h4⟩)
    · exact .inr ⟨hk, rfl, m, hm, by omega, rfl⟩
    · exact .inl h
    · exact .inr ⟨h1, h2, j, hj, by omega, h4⟩
theorem edK_all (rs : List RoleE) (x y : ByteArray) : edK rs rs.length 0 (x, y) ↔ Edg (rs.map (·.t)) x y := by
  constructor
  · rintro (⟨i, hi, _, h2, h3⟩ | ⟨h, _⟩)
    · exact ⟨rs[i].t, List.mem_map_of_mem (List.getElem_mem hi), h2, h3⟩
    · omega
  · rintro ⟨r, hr, h1, h2⟩
    obtain ⟨e, he, rfl⟩ := List.mem_map.1 hr
    obtain ⟨i, hi, rfl⟩ := List.getElem_of_mem he
    exact .inl ⟨i, hi, hi, h1, h2⟩
theorem GM.rowK {w w' : World} {lo bg n : Nat} {es : List (Bs × Bs)} {tab : Bs → Option Nat} {row : Option Nat} (h : GM w lo bg n es tab) (hg : w.grownBy w' row) (hr : ∀ r, row = some r → r < lo ∨ w.heap.size ≤ r) : GM w' lo bg n es tab := by
  have aux : ∀ (b : Nat) (m : Bs → Option Value), lo ≤ b → KM Try.prog 9 Value.string w b n m → KM Try.prog 9 Value.string w' b n m := fun b m hb hm => hm.kept hg (fun e => by
    have := hm.lt
    rcases hr b e.symm with h | h <;> omega)
  exact ⟨h.base, aux _ _ h.base h.top, fun a b e => aux _ _ (h.ge a b e).1 (h.kid a b e), h.inj, h.ge, h.has, h.ok⟩
theorem GM.rowB {w w' : World} {lo bg n : Nat} {es : List (Bs × Bs)} {tab : Bs → Option Nat} {row : Option Nat} (h : GM w lo bg n es tab) (hg : w.grownBy w' row) (hr : ∀ r, row = some r → bg ≠ r ∧ ∀ a b, tab a = some b → b ≠ r) : GM w' lo bg n es tab :=
  ⟨h.base, h.top.kept hg (fun e => (hr _ e.symm).1 rfl), fun a b e => (h.kid a b e).kept hg (fun e2 => (hr _ e2.symm).2 a b e rfl), h.inj, h.ge, h.has, h.ok⟩
theorem rowJ {lo b : Nat} {w w' : World} {C : Array Value} {T : TypeId} (h : KeptJ lo w w') (hr : RowIs w b C T) : RowIs w' b C T := h.row hr
theorem belowJ {lo : Nat} {w0 w w' : World} (hb : Below w0.heap.size w0 w) (h : KeptJ lo w w') (hl : w0.heap.size ≤ lo) : Below w0.heap.size w0 w' :=
  hb.trans ⟨h.os, h.tape, h.output, h.size, fun k hk => h.block k (Nat.lt_of_lt_of_le hk hb.size) (.inl (Nat.lt_of_lt_of_le hk hl))⟩
theorem intM_someO (L : Bs → Option Nat) (x : Bs) : (intM L x).isSome = (L x).isSome := by unfold intM; cases L x <;> rfl
theorem grownO {w w' : World} {row : Option Nat} (h : Below w.heap.size w w') : w.grownBy w' row := ⟨h.os, h.tape, h.output, h.size, fun i hi _ => h.block i hi⟩
theorem grownT {w0 w w' : World} {row : Option Nat} (hg : w0.grownBy w row) (h : Below w.heap.size w w') : w0.grownBy w' row :=
  ⟨h.os.trans hg.os, h.tape.trans hg.tape, h.output.trans hg.output, Nat.le_trans hg.size h.size, fun i hi hr => (h.block i (Nat.lt_of_lt_of_le hi hg.size)).trans (hg.block i hi hr)⟩
theorem grownGG {a b c : World} {row : Option Nat} (h : a.grownBy b row) (k : b.grownBy c row) : a.grownBy c row :=
  ⟨k.os.trans h.os, k.tape.trans h.tape, k.output.trans h.output, Nat.le_trans h.size k.size, fun i hi hr => (k.block i (Nat.lt_of_lt_of_le hi h.size) hr).trans (h.block i hi hr)⟩
theorem grownN {w0 w w' : World} {b1 bs : Nat} (hg : w0.grownBy w (some b1)) (h : w.grownBy w' (some bs)) (hbs : w0.heap.size ≤ bs) : w0.grownBy w' (some b1) :=
  ⟨h.os.trans hg.os, h.tape.trans hg.tape, h.output.trans hg.output, Nat.le_trans hg.size h.size, fun i hi hr => (h.block i (Nat.lt_of_lt_of_le hi hg.size) (fun e => by have := Option.some.inj e; omega)).trans (hg.block i hi hr)⟩
theorem rowG {w w' : World} {b b1 : Nat} {C : Array Value} {T : TypeId} (h : RowIs w b C T) (hg : w.grownBy w' (some b1)) (hne : b ≠ b1) : RowIs w' b C T := row_grownO h hg (fun e => hne (by cases e; rfl))
theorem cellG {w w' : World} {b1 n : Nat} {m : ByteArray → Option Value} {b o : Nat} {v : Value} (hg : w.grownBy w' (some b1)) (hm : KStr w b1 n m) (hc : w.cell? ⟨b, o, none⟩ = some v) : w'.cell? ⟨b, o, none⟩ = some v := by
  have hl := World.block_lt_of_cell? w ⟨b, o, none⟩ hc
  by_cases e : b = b1
  · subst e
    obtain ⟨D, ⟨es, cl, h1, _⟩, _⟩ := hm
    simp [World.cell?, h1] at hc
  · have := hg.block b hl (fun h => e (by cases h; rfl))
    simp only [World.cell?, this] at hc ⊢
    exact hc
/-- 'm[x] = v', as it runs. -/
theorem put_run {P : Program} {k : TypeId} {α : Type} {enc : α → Value} {ok : α → Prop} [DecidableEq α] {w : World} (K : KeyKind P k enc ok) {t e : TypeId} (ht : P.underlying t = some (.map k e)) {b n : Nat} {M : α → Option Value} (hk : KM P k enc w b n M) (hn : n < maxLen) (y : α) (c : Value) (hy : ok y) :
    ∃ w', (Instr.mapUpdate t (.map (some b)) (enc y) c).run P w = .ok () w' ∧ KM P k enc w' b (n + 1) (updK M y c) ∧ w.grownBy w' (some b) ∧ w'.heap.size = w.heap.size := by
  obtain ⟨D, hown, hD⟩ := hk
  obtain ⟨kl, hkl⟩ := K.key y hy
  obtain ⟨w', hrun, h1, h2⟩ := hown.store K.law ht hn hkl (d := .held c) (ps := []) (show hvR c = _ from rfl)
  refine ⟨w', hrun, ⟨_, h1, fun y' kl' hk' => ?_⟩, h2.grown, (by obtain ⟨es, cl, es', cl', _, rfl⟩ := h2; simp [ChangeMaps.setBlock])⟩
  by_cases e : y' = y
  · subst e
    obtain rfl : kl' = kl := by rw [hkl] at hk'; exact (Option.some.inj hk').symm
    have hu : updK M y' c y' = some c := by simp [updK]
    rw [hu]
    refine ⟨Maps.has_put_same hown.isMap (K.law.key hkl) _, fun c' hc' z => ?_⟩
    cases hc'
    exact Maps.atKey_put_same hown.isMap (K.law.key hkl) _ z
  · have hne : kl' ≠ kl := fun e2 => e (K.inj _ _ (K.law.inj hk' (by rw [e2]; exact hkl)))
    have hu : updK M y c y' = M y' := by simp [updK, e]
    rw [hu, Maps.has_put_other hne]
    refine ⟨(hD y' kl' hk').1, fun c' hc' z => ?_⟩
    rw [Maps.atKey_put_other hne]
    exact (hD y' kl' hk').2 c' hc' z
/-- The juniors of the first k roles are there. -/
structure JM (w : World) (b1 : Nat) (rs : List RoleE) (k : Nat) (tab : ByteArray → Option Nat) : Prop where
  top : KStr w b1 k (topM tab)
  has : ∀ s, (tab s).isSome = true ↔ ∃ i, ∃ h : i < rs.length, i < k ∧ rs[i].t.f0 = s
  kid : ∀ s b, tab s = some b → b1 < b ∧ KStr w b 1001 (chM (jmem (rs.map (·.t)) s))
theorem JM.rowK {w w' : World} {b1 : Nat} {rs : List RoleE} {k : Nat} {tab : ByteArray → Option Nat} {row : Option Nat} (h : JM w b1 rs k tab) (hg : w.grownBy w' row) (hr : ∀ r, row = some r → r < b1 ∨ w.heap.size ≤ r) : JM w' b1 rs k tab := by
  have aux : ∀ (b n : Nat) (m : Bs → Option Value), b1 ≤ b → KStr w b n m → KStr w' b n m := fun b n m hb hm => hm.kept hg (fun e => by
    have := hm.lt
    rcases hr b e.symm with h | h <;> omega)
  exact ⟨aux _ _ _ (Nat.le_refl _) h.top, h.has, fun s b e => ⟨(h.kid s b e).1, aux _ _ _ (by have := (h.kid s b e).1; omega) (h.kid s b e).2⟩⟩
theorem JM.keep {w w' : World} {b1 : Nat} {rs : List RoleE} {k : Nat} {tab : ByteArray → Option Nat} (h : JM w b1 rs k tab) (hb : Below w.heap.size w w') : JM w' b1 rs k tab :=
  h.rowK (row := none) ⟨hb.os, hb.tape, hb.output, hb.size, fun i hi _ => hb.block i hi⟩ (fun r h => by cases h)
set_option maxRecDepth 40000 in
set_option maxHeartbeats 8000000 in
theorem learnJuniors_n (b1 b2 : Nat) (hp hg : Hd) (h : Hd) (rs : List RoleE) (w : World) (h30 : rs.length ≤ 30) (hu : ∀ e ∈ rs, e.t.f1.length ≤ 30) (hnd : (nms (rs.map (·.t))).Nodup) (hn : ∀ e ∈ rs, RoleN e.t) (hs : SqRoleE w 0 h rs) (hk : KStr w b1 0 (fun _ => none)) :
    Calls Try.prog 42 #[.agg #[.map (some b1), .map (some b2), .slice hp.a hp.len hp.cap, .slice hg.a hg.len hg.cap], .slice h.a h.len h.cap] w fun r w' => (∃ v : Bool, r = .returned (.bool v) ∧ (v = true ↔ GEnd (rs.map (·.t))) ∧ (v = true → ∃ tab, JM w' b1 rs rs.length tab)) ∧ w.grownBy w' (some b1) := by
  have HL := hide hs.1
  have HS := hide hs
  have HN := hide hn
  have HU := hide hu
  have ND := hide hnd
  have zb1 := hk.lt
  obtain ⟨a, len, cap⟩ := h
  simp only at HL
  have L30 : len ≤ 30 := by have := unhide HL; omega
  obtain ⟨W, hW⟩ : ∃ W, W = (w.alloc (.cells #[.map (some b1), .map (some b2), .slice hp.a hp.len hp.cap, .slice hg.a hg.len hg.cap] 54)).alloc (.map #[] 0) := ⟨_, rfl⟩
  have zW : W.heap.size = w.heap.size + 1 + 1 := by rw [hW]; simp
  have G0 : Hid (GM W (w.heap.size + 1) (w.heap.size + 1) 0 [] (fun _ => none)) := hide (by rw [hW]; have := GM.made (w.alloc (.cells #[.map (some b1), .map (some b2), .slice hp.a hp.len hp.cap, .slice hg.a hg.len hg.cap] 54)) (w.heap.size + 1) (by simp); simpa using this)
  have B0 : Hid (Below w.heap.size w W) := hide (by rw [hW]; exact bAl (bAl (Below.refl _ _) _) _)
  have R0 : Hid (RowIs W w.heap.size #[.map (some b1), .map (some b2), .slice hp.a hp.len hp.cap, .slice hg.a hg.len hg.cap] 54) := hide (by rw [hW]; exact (RowIs.new w _ _).keep (bAl (Below.refl _ _) _))
  have HK := hide hk
  have HW := hide hW.symm
  have hmm := @run_makeMap Try.prog
  clear hs hn hu hnd hk hW h30
  go_enter Try.func42, Try.ntmps42
  go_wp2_with fail
  rw [unhide HW]
  clear HW hmm
  go_loopw [15] (fun i w' => ∃ (k : Nat) (es : List (Bs × Bs)) (tab : Bs → Option Nat), k ≤ len ∧ i = .int .i64 k ∧ es.length ≤ k * 30 ∧ Hid (GM w' (w.heap.size + 1) (w.heap.size + 1) es.length es tab) ∧ Hid (∀ p, p ∈ es ↔ edK rs k 0 p) ∧ Hid (w.heap.size + 2 ≤ w'.heap.size) ∧ Hid (RowIs w' w.heap.size #[.map (some b1), .map (some b2), .slice hp.a hp.len hp.cap, .slice hg.a hg.len hg.cap] 54) ∧ Hid (Below w.heap.size w w')) (fun i _ => len - (Go.RowKit.intOf i).toNat)
  case atStart => exact ⟨0, [], _, Nat.zero_le _, rfl, by simp, G0, hide (fun p => ⟨fun h => (by cases h), fun h => absurd h (edK_zero rs p)⟩), hide (by omega), R0, B0⟩
  case round =>
    clear G0 R0 B0 zW
    obtain ⟨k, es, tab, hk, rfl, hes, G, E, Z, R, B⟩ := hrel
    by_cases hlt : k < len
    case neg =>
      have ek : k = rs.length := by have := unhide HL; omega
      have EE : Hid (∀ x y, (x, y) ∈ es ↔ Edg (rs.map (·.t)) x y) := hide (fun x y => by rw [unhide E, ek]; exact edK_all rs x y)
      have LE : es.length ≤ 900 := by omega
      clear E ek
      go_wp2_with fail
      clear hk hlt hes
      go_loopw [35] (fun i w' => ∃ (k : Nat) (tj : ByteArray → Option Nat), k ≤ len ∧ i = .int .i64 k ∧ Hid (GM w' (w.heap.size + 1) (w.heap.size + 1) es.length es tab) ∧ Hid (JM w' b1 rs k tj) ∧ Hid (∀ i (h : i < rs.length), i < k → ¬ Rch (rs.map (·.t)) rs[i].t.f0 rs[i].t.f0) ∧ Hid (w.heap.size + 2 ≤ w'.heap.size) ∧ Hid (RowIs w' w.heap.size #[.map (some b1), .map (some b2), .slice hp.a hp.len hp.cap, .slice hg.a hg.len hg.cap] 54) ∧ Hid (w.grownBy w' (some b1))) (fun i _ => len - (Go.RowKit.intOf i).toNat)
      case atStart => exact ⟨0, fun _ => none, Nat.zero_le _, rfl, G, hide ⟨(unhide HK).keepB (unhide B) zb1, fun s => ⟨fun h => (by cases h), fun ⟨i, _, h, _⟩ => absurd h (Nat.not_lt_zero _)⟩, fun s b h => (by cases h)⟩, hide (fun i _ h => absurd h (Nat.not_lt_zero _)), Z, R, hide (grownO (unhide B))⟩
      case round =>
        clear G Z R B
        obtain ⟨k, tj, hk, rfl, G, J, hA, Z, R, B⟩ := hrel
        by_cases hlt : k < len
        case neg =>
          have ek : k = rs.length := by have := unhide HL; omega
          have YES : Hid (GEnd (rs.map (·.t))) := hide (fun r hr => by
            obtain ⟨e, he, rfl⟩ := List.mem_map.1 hr
            obtain ⟨i, hi, rfl⟩ := List.getElem_of_mem he
            exact unhide hA i hi (by omega))
          have JE : Hid (JM wr b1 rs rs.length tj) := hide (by have := unhide J; rw [ek] at this; exact this)
          clear hA J ek G
          go_wp2_with fail
          go_ret
          exact ⟨⟨true, rfl, ⟨fun _ => unhide YES, fun _ => rfl⟩, fun _ => ⟨tj, unhide JE⟩⟩, unhide B⟩
        have hk' : k < rs.length := by have := unhide HL; omega
        obtain ⟨b, off, e0, hrow⟩ := (unhide HS).at hlt
        simp only at e0
        subst e0
        have c0 := cellG (unhide B) (unhide HK) (hrow.c0 k hk')
        have c1 := cellG (unhide B) (unhide HK) (hrow.c1 k hk')
        have c2 := cellG (unhide B) (unhide HK) (hrow.c2 k hk')
        have o0 := (unhide HN _ (List.getElem_mem hk')).o0
        have NOG : Hid (Rch (rs.map (·.t)) rs[k].t.f0 rs[k].t.f0 → ¬ GEnd (rs.map (·.t))) := hide (fun h g => g _ (List.mem_map_of_mem (List.getElem_mem hk')) h)
        have STP : Hid (¬ Rch (rs.map (·.t)) rs[k].t.f0 rs[k].t.f0 → ∀ i (h : i < rs.length), i < k + 1 → ¬ Rch (rs.map (·.t)) rs[i].t.f0 rs[i].t.f0) := hide (fun g i hi h1 => by
          rcases Nat.lt_or_ge i k with h2 | h2
          · exact unhide hA i hi h2
          · obtain rfl : i = k := by omega
            exact g)
        have JS : Hid (∀ (w' : World) (bs : Nat), KStr w' b1 (k + 1) (topM (fun y => if y = rs[k].t.f0 then some bs else tj y)) → b1 < bs → KStr w' bs 1001 (chM (jmem (rs.map (·.t)) rs[k].t.f0)) → (∀ s b, tj s = some b → b1 < b ∧ KStr w' b 1001 (chM (jmem (rs.map (·.t)) s))) → JM w' b1 rs (k + 1) (fun y => if y = rs[k].t.f0 then some bs else tj y)) := hide (fun w' bs h1 h2 h3 h4 => ⟨h1, fun s => by
          by_cases e : s = rs[k].t.f0
          · simp only [e, if_true, Option.isSome_some, true_iff]; exact ⟨k, hk', by omega, rfl⟩
          · simp only [e, if_false]
            rw [(unhide J).has s]
            constructor
            · rintro ⟨i, hi, h5, h6⟩; exact ⟨i, hi, by omega, h6⟩
            · rintro ⟨i, hi, h5, h6⟩
              refine ⟨i, hi, ?_, h6⟩
              rcases Nat.lt_or_ge i k with h7 | h7
              · exact h7
              · obtain rfl : i = k := by omega
                exact absurd h6.symm e, fun s b h => by
          by_cases e : s = rs[k].t.f0
          · rw [if_pos e] at h
            have hb : bs = b := Option.some.inj h
            rw [← hb, e]
            exact ⟨h2, h3⟩
          · rw [if_neg e] at h; exact h4 s b h⟩)
        have MS : Hid (∀ (L : Bs → Option Nat), (∀ b n, L b = some n ↔ Dist (fun x y => (x, y) ∈ es) rs[k].t.f0 b n) → ∀ x, (ByteArray.size x ≤ maxLen ∧ (intM L x).isSome = true) ↔ Rch (rs.map (·.t)) rs[k].t.f0 x) := hide (fun L hL x => by
          have hE : ∀ x y, (fun x y => (x, y) ∈ es) x y ↔ Edg (rs.map (·.t)) x y := unhide EE
          rw [rch_dist]
          constructor
          · rintro ⟨_, h⟩
            rw [intM_someO] at h
            obtain ⟨n, hn⟩ := Option.isSome_iff_exists.1 h
            exact ⟨n, (dist_congr hE).1 ((hL x n).1 hn)⟩
          · rintro ⟨n, hn⟩
            refine ⟨?_, ?_⟩
            · obtain ⟨h1, h2, _⟩ := hn
              obtain ⟨m, rfl⟩ : ∃ m, n = m + 1 := ⟨n - 1, by omega⟩
              obtain ⟨c, _, r, hr, _, hx⟩ := h2
              obtain ⟨e, he, rfl⟩ := List.mem_map.1 hr
              exact (unhide HN e he).o1 x hx
            · rw [intM_someO]
              rw [(hL x n).2 ((dist_congr hE).2 hn)]; rfl)
        obtain ⟨W, hW⟩ : ∃ W, W = wr.alloc (.cells #[.string rs[k].t.f0, .slice rs[k].h1.a rs[k].h1.len rs[k].h1.cap, .slice rs[k].h2.a rs[k].h2.len rs[k].h2.cap] 41) := ⟨_, rfl⟩
        have bW : Below wr.heap.size wr W := by rw [hW]; exact bAl (Below.refl _ _) _
        have qW := hide (show RowIs W wr.heap.size #[.string rs[k].t.f0, .slice rs[k].h1.a rs[k].h1.len rs[k].h1.cap, .slice rs[k].h2.a rs[k].h2.len rs[k].h2.cap] 41 by rw [hW]; exact RowIs.new wr _ _)
        have HW := hide hW.symm
        have GW := hide ((unhide G).keepB bW (Nat.le_refl _))
        have JW := hide ((unhide J).keep bW)
        have WR := hide ((unhide R).keep bW)
        have BW := hide (grownT (unhide B) bW)
        have ZW : w.heap.size + 2 ≤ W.heap.size := Nat.le_trans (unhide Z) bW.size
        have zx : wr.heap.size < W.heap.size := (unhide qW).lt
        have zx2 : w.heap.size + 2 ≤ wr.heap.size := unhide Z
        obtain ⟨bx, hbx⟩ : ∃ n, n = wr.heap.size := ⟨_, rfl⟩
        rw [← hbx] at qW zx zx2
        have HBX := hide hbx.symm
        clear hW bW hrow hbx hA G J R B Z
        generalize rs[k] = A at *
        obtain ⟨⟨f0, f1, f2⟩, g1, g2⟩ := A
        simp only at *
        have s0 := (unhide WR).at (o := 0) (v := .map (some b1)) rfl
        have s1 := (unhide qW).at (o := 0) (v := .string f0) rfl
        have q1 := hide (steps_any (w.heap.size + 1) (w.heap.size + 1) es.length es tab f0 W.drew ((unhide GW).keepB (Below.refl _ _).drew (Nat.le_refl _)) LE o0)
        go_wp2_with fail
        rw [unhide HW, unhide HBX]
        clear HW HBX c0 c1 c2
        go_region_held3 (fun w' => w'.cell? ⟨w.heap.size, 0, none⟩ = some (.map (some b1)) ∧ w'.cell? ⟨bx, 0, none⟩ = some (.string f0))
          (first | exact ⟨s0, s1⟩ | exact unhide Y2 | exact unhide Y3 | exact unhide Y4 | exact unhide Y5)
          (first
            | (go_at_call 60; refine (unhide q1).mono ?_; rintro e w2 ⟨⟨bl, L, rfl, _, hK, hD⟩, hb⟩; replace hb := undrew hb; have R2 := hide ((unhide WR).keep hb); have Q2 := hide ((unhide qW).keep hb); have Y2 := hide (And.intro ((unhide R2).at (o := 0) (v := .map (some b1)) rfl) ((unhide Q2).at (o := 0) (v := .string f0) rfl)); have G2 := hide ((unhide GW).keepB hb (Nat.le_refl _)); have J2 := hide ((unhide JW).keep hb); have B2 := hide (grownT (unhide BW) hb); have Z2 : W.heap.size ≤ w2.heap.size := hb.size; have M2 := hide (unhide MS L hD); have q2 := hide (keysInt_any bl 1000 (intM L) w2 hK (by omega)); clear hK hD hb)
            | (go_at_call 59; refine (unhide q2).mono ?_; rintro e w3 ⟨⟨v, r, rfl, _, hm, hlen, ho⟩, hb⟩; obtain ⟨av, cv, ev, sv⟩ := own_strs ho; subst ev; have R3 := hide ((unhide R2).keep hb); have Q3 := hide ((unhide Q2).keep hb); have Y3 := hide (And.intro ((unhide R3).at (o := 0) (v := .map (some b1)) rfl) ((unhide Q3).at (o := 0) (v := .string f0) rfl)); have G3 := hide ((unhide G2).keepB hb (Nat.le_refl _)); have J3 := hide ((unhide J2).keep hb); have B3 := hide (grownT (unhide B2) hb); have Z3 : W.heap.size ≤ w3.heap.size := Nat.le_trans Z2 hb.size; have M3 : Hid (∀ x, x ∈ r ↔ Rch (rs.map (·.t)) f0 x) := hide (fun x => (hm x).trans (unhide M2 x)); have q3 := hide (setOf_n ⟨av, r.length, cv⟩ r w3 (by omega) (fun x hx => ((hm x).1 hx).1) (SqS.of (sls_back sv))); clear hm ho hb sv q2)
            | (go_at_call 38; refine (unhide q3).mono ?_; rintro e w4 ⟨⟨bs, rfl, hbs, hK⟩, hb⟩; have R4 := hide ((unhide R3).keep hb); have Q4 := hide ((unhide Q3).keep hb); have Y4 := hide (And.intro ((unhide R4).at (o := 0) (v := .map (some b1)) rfl) ((unhide Q4).at (o := 0) (v := .string f0) rfl)); have G4 := hide ((unhide G3).keepB hb (Nat.le_refl _)); have J4 := hide ((unhide J3).keep hb); have B4 := hide (grownT (unhide B3) hb); have Z4 : W.heap.size ≤ w4.heap.size := Nat.le_trans Z3 hb.size; have N4 : W.heap.size ≤ bs := Nat.le_trans Z3 hbs; have K4 := hide (show KStr w4 bs 1000 (chM (Rch (rs.map (·.t)) f0)) by rw [← chM_congr (unhide M3)]; exact hK.more hlen); clear hK hb hbs q3; obtain ⟨w5, hrun5, hk5, hg5, hs5⟩ := put_run (t := 52) kStr Try.underlying52 (unhide J4).top (by unfold maxLen; omega) f0 (.map (some bs)) o0; rw [← updTab] at hk5; have R5 := hide (rowG (unhide R4) hg5 (by omega)); have Q5 := hide (rowG (unhide Q4) hg5 (by omega)); have Y5 := hide (And.intro ((unhide R5).at (o := 0) (v := .map (some b1)) rfl) ((unhide Q5).at (o := 0) (v := .string f0) rfl)); have G5 := hide (GM.rowK (unhide G4) hg5 (fun r h => by cases h; exact .inl (by omega))); have K5 := hide (show KStr w5 bs 1000 (chM (Rch (rs.map (·.t)) f0)) from (unhide K4).kept hg5 (fun e => by cases e; omega)); have T5 := hide hk5; have D5 : Hid (∀ s b, tj s = some b → b1 < b ∧ b < W.heap.size ∧ KStr w5 b 1001 (chM (jmem (rs.map (·.t)) s))) := hide (fun s b h => ⟨((unhide J4).kid s b h).1, ((unhide JW).kid s b h).2.lt, ((unhide J4).kid s b h).2.kept hg5 (fun e => Nat.lt_irrefl b1 (Option.some.inj e ▸ ((unhide J4).kid s b h).1))⟩); have B5 := hide (grownGG (unhide B4) hg5); have S5 := hide hs5; clear hk5 hg5 hs5))
        iterate 14 (try clear hHeld)
        have GB : Hid (w.heap.size + 1 ≠ bs ∧ ∀ a b, tab a = some b → b ≠ bs) := hide ⟨by have := (unhide GW).top.lt; omega, fun a b e => by have := ((unhide GW).kid a b e).lt; omega⟩
        have ev := hide (show (topM (fun y => if y = f0 then some bs else tj y) f0).getD (.map none) = Value.map (some bs) by simp [topM])
        obtain ⟨y0, y1⟩ := unhide Y5
        have qh := hide (hasS_n bs 1000 (Rch (rs.map (·.t)) f0) f0 w5 o0 (unhide K5))
        have sz5 : w5.heap.size = w4.heap.size := unhide S5
        clear q1 MS GW JW WR BW qW s0 s1 R2 Q2 Y2 G2 J2 B2 M2 R3 Q3 Y3 G3 J3 B3 M3 R4 Q4 Y4 G4 J4 B4 K4 hrun5 Y5 S5
        go_wp2_with (at_lookup; refine wpList_get_km _ kStr rfl _ _ _ rfl _ Try.underlying52 (zeroSet _) b1 (k + 1) _ rfl (unhide T5) f0 rfl o0 _ (unhide ev) ?_)
        refine (unhide qh).mono ?_
        rintro e w6 ⟨⟨v, rfl, hv⟩, hb⟩
        cases v
        case true =>
          have no := hide (unhide NOG (hv.1 rfl))
          have B6 := hide (grownT (unhide B5) hb)
          clear hv hb qh STP JS NOG D5 K5 T5 G5 R5 Q5 B5
          go_wp2_with fail
          go_ret
          exact ⟨⟨false, rfl, ⟨fun h => (by cases h), fun h => absurd h (unhide no)⟩, fun h => (by cases h)⟩, unhide B6⟩
        have S := hide (unhide STP (fun h => by have := hv.2 h; cases this))
        have T6 := hide (show KStr w6 b1 (k + 1) (topM (fun y => if y = f0 then some bs else tj y)) from (unhide T5).keepB hb (unhide T5).lt)
        have K6 := hide (show KStr w6 bs 1000 (chM (Rch (rs.map (·.t)) f0)) from (unhide K5).keepB hb (unhide K5).lt)
        have R6 := hide ((unhide R5).keep hb)
        have q6 := (unhide Q5).keep hb
        have Q6 := hide q6
        have x0 := (unhide R6).at (o := 0) (v := .map (some b1)) rfl
        have x1 := (unhide Q6).at (o := 0) (v := .string f0) rfl
        have G6 := hide ((unhide G5).keepB hb (Nat.le_refl _))
        have D6 : Hid (∀ s b, tj s = some b → b1 < b ∧ b < W.heap.size ∧ KStr w6 b 1001 (chM (jmem (rs.map (·.t)) s))) := hide (fun s b h => ⟨(unhide D5 s b h).1, (unhide D5 s b h).2.1, (unhide D5 s b h).2.2.keepB hb (by have := (unhide D5 s b h).2.1; omega)⟩)
        have B6 := hide (grownT (unhide B5) hb)
        have z6 : w5.heap.size ≤ w6.heap.size := hb.size
        have qa := hide (add_any bs 1000 (chM (Rch (rs.map (·.t)) f0)) f0 w6 (unhide K6) (by unfold maxLen; omega) o0)
        clear hv hb qh STP NOG D5 K5 T5 G5 R5 Q5 B5 y0 y1 q6
        go_wp2_with (at_lookup; refine wpList_get_km _ kStr rfl _ _ _ rfl _ Try.underlying52 (zeroSet _) b1 (k + 1) _ rfl (unhide T6) f0 rfl o0 _ (unhide ev) ?_)
        refine (unhide qa).mono ?_
        rintro e w7 ⟨rfl, h1, h2, h3⟩
        have K7 : KStr w7 bs 1001 (chM (jmem (rs.map (·.t)) f0)) := by
          rw [chM_upd] at h1
          have e : chM (jmem (rs.map (·.t)) f0) = chM (fun y => Rch (rs.map (·.t)) f0 y ∨ y = f0) := chM_congr (fun x => or_comm)
          rw [e]; exact h1
        have J7 := hide (unhide JS w7 bs ((unhide T6).kept h2 (fun e => by have := Option.some.inj e; omega)) (by omega) K7 (fun s b h => ⟨(unhide D6 s b h).1, (unhide D6 s b h).2.2.kept h2 (fun e => by have := Option.some.inj e; have := (unhide D6 s b h).2.1; omega)⟩))
        have G7 := hide (GM.rowB (unhide G6) h2 (fun r h => by cases h; exact unhide GB))
        have R7 := hide (rowG (unhide R6) h2 (by omega))
        have Z7 : Hid (w.heap.size + 2 ≤ w7.heap.size) := hide (by omega)
        have B7 := hide (grownN (unhide B6) h2 (by omega))
        clear h1 h2 h3 K7 T6 K6 R6 Q6 G6 D6 B6 qa JS GB x0 x1
        go_wp2_with fail
        exact ⟨⟨k + 1, _, by omega, by go_num, G7, J7, S, Z7, R7, B7⟩, by simp [Go.RowKit.intOf]; omega⟩
    have hk' : k < rs.length := by have := unhide HL; omega
    obtain ⟨b, off, e0, hrow⟩ := ((unhide HS).keep (unhide B)).at hlt
    simp only at e0
    subst e0
    have c0 := hrow.c0 k hk'
    have c1 := hrow.c1 k hk'
    have c2 := hrow.c2 k hk'
    have hnk := unhide HN _ (List.getElem_mem hk')
    have MM := hide ((unhide HS).2.2 _ (List.getElem_mem hk')).m1
    have EL := hide ((unhide HS).2.2 _ (List.getElem_mem hk')).m1.1
    have O1 := hide hnk.o1
    have o0 := hnk.o0
    have U1 := unhide HU _ (List.getElem_mem hk')
    have STEP : Hid (∀ m (hm : m < rs[k].t.f1.length) (es : List (Bs × Bs)), (∀ p, p ∈ es ↔ edK rs k m p) → ∀ p, p ∈ (rs[k].t.f0, rs[k].t.f1[m]) :: es ↔ edK rs k (m + 1) p) := hide (fun m hm es h p => by rw [List.mem_cons, h p]; exact (edK_one hk' hm p).symm)
    have NEXT : Hid (∀ m, m = rs[k].t.f1.length → ∀ p, edK rs (k + 1) 0 p ↔ edK rs k m p) := hide (fun m hm p => edK_next hk' hm p)
    obtain ⟨W, hW⟩ : ∃ W, W = wr.alloc (.cells #[.string rs[k].t.f0, .slice rs[k].h1.a rs[k].h1.len rs[k].h1.cap, .slice rs[k].h2.a rs[k].h2.len rs[k].h2.cap] 41) := ⟨_, rfl⟩
    have bW : Below wr.heap.size wr W := by rw [hW]; exact bAl (Below.refl _ _) _
    have qW := hide (show RowIs W wr.heap.size #[.string rs[k].t.f0, .slice rs[k].h1.a rs[k].h1.len rs[k].h1.cap, .slice rs[k].h2.a rs[k].h2.len rs[k].h2.cap] 41 by rw [hW]; exact RowIs.new wr _ _)
    have HW := hide hW.symm
    have G1 := hide ((unhide G).keepB bW (Nat.le_refl _))
    have R1 := hide ((unhide R).keep bW)
    have B1 := hide (bTr (unhide B) bW)
    have Z1 := hide (Nat.le_trans (unhide Z) bW.size)
    clear hW bW hrow hnk G R B Z
    generalize rs[k] = A at *
    obtain ⟨⟨f0, f1, f2⟩, ⟨ga, gl, gc⟩, g2⟩ := A
    simp only at *
    have s1 := (unhide qW).at (o := 1) (v := .slice ga gl gc) rfl
    go_wp2_with fail
    rw [unhide HW]
    go_wp2_with fail
    clear s1 c0 c1 c2 HW
    obtain ⟨bx, hbx⟩ : ∃ n, n = wr.heap.size := ⟨_, rfl⟩
    rw [← hbx] at qW ⊢
    clear hbx
    go_loopw [22] (fun i w' => ∃ (m : Nat) (es : List (Bs × Bs)) (tab : Bs → Option Nat), m ≤ gl ∧ i = .int .i64 m ∧ es.length ≤ k * 30 + m ∧ Hid (GM w' (w.heap.size + 1) (w.heap.size + 1) es.length es tab) ∧ Hid (∀ p, p ∈ es ↔ edK rs k m p) ∧ Hid (w.heap.size + 2 ≤ w'.heap.size) ∧ Hid (RowIs w' w.heap.size #[.map (some b1), .map (some b2), .slice hp.a hp.len hp.cap, .slice hg.a hg.len hg.cap] 54) ∧ Hid (RowIs w' bx #[.string f0, .slice ga gl gc, .slice g2.a g2.len g2.cap] 41) ∧ Hid (Below w.heap.size w w')) (fun i _ => gl - (Go.RowKit.intOf i).toNat)
    case atStart => exact ⟨0, es, tab, Nat.zero_le _, rfl, by omega, G1, E, Z1, R1, qW, B1⟩
    case round =>
      clear G1 R1 B1 Z1 E hes qW
      obtain ⟨m, es, tab, hm, rfl, hes, G, E, Z, R, Q, B⟩ := hrel
      have EL' : gl = f1.length := unhide EL
      by_cases hm2 : m < gl
      case neg =>
        have E1 : Hid (∀ p, p ∈ es ↔ edK rs (k + 1) 0 p) := hide (fun p => (unhide E p).trans (unhide NEXT m (by omega) p).symm)
        have l1 : es.length ≤ (k + 1) * 30 := by omega
        clear E NEXT STEP EL'
        go_wp2_with fail
        exact ⟨⟨k + 1, es, tab, by omega, by go_num, l1, G, E1, Z, R, B⟩, by simp [Go.RowKit.intOf]; omega⟩
      have hm' : m < f1.length := by omega
      obtain ⟨bp, offp, ep, rowp⟩ := ((unhide MM).keep (unhide B)).sl.at hm2
      simp only at ep
      have n0 := rowp.c m hm'
      have hsz := unhide O1 _ (List.getElem_mem hm')
      have E1 := hide (unhide STEP m hm' es (unhide E))
      have q := hide (join_any (w.heap.size + 1) (w.heap.size + 1) es.length es tab f0 f1[m] wr (unhide G) (by have := unhide Z; omega) (by omega) o0 hsz)
      clear rowp E EL'
      generalize f1[m] = nm at *
      subst ep
      have s0 := (unhide Q).at (o := 0) (v := .string f0) rfl
      go_wp2_with fail
      refine (unhide q).mono ?_
      rintro r w1 ⟨rfl, ⟨tab', hG⟩, hJ⟩
      have G1 := hide (show GM w1 (w.heap.size + 1) (w.heap.size + 1) ((f0, nm) :: es).length ((f0, nm) :: es) tab' from hG)
      have R1 := hide (rowJ hJ (unhide R))
      have Q1 := hide (rowJ hJ (unhide Q))
      have Z1 := hide (Nat.le_trans (unhide Z) hJ.size)
      have B1 := hide (belowJ (unhide B) hJ (Nat.le_succ _))
      have l1 : ((f0, nm) :: es).length ≤ k * 30 + (m + 1) := by rw [List.length_cons]; omega
      clear hG hJ G R Q Z B q s0 n0
      go_wp2_with fail
      exact ⟨⟨m + 1, (f0, nm) :: es, tab', by omega, by go_num, l1, G1, E1, Z1, R1, Q1, B1⟩, by simp [Go.RowKit.intOf]; omega⟩
end Go.Proofs.Ytfabfgokammmhaa.V
