/- OJa, ODp, one behind the other. -/
import Derived.Test.YtfbncneeimikcaaGreatJ27
import Derived.Test.YtfbncneeimikcaaGreatJ31
import Derived.Laws.IdiomRangeMap
import Derived.Test.YtfbncneeimikcaaGreatJ23
import Derived.Test.YtfbncneeimikcaaGreatJ29
/- (impl.roleIndex).juniorsOfAll. -/
namespace Go.Proofs.YtfbncneeimikcaaGreat.V
set_option linter.unusedSimpArgs false
set_option linter.unusedVariables false
open Go.RowKit Go.Maps

section
variable {P : Program} {k : TypeId} {α : Type} {enc : α → Value} {ok : α → Prop} (w : World) {ops : Array Oper} {rest : List Oper} {o : Oper} {a : Act} {Q : Exit → Act → World → Prop}
theorem wpList_range_kmB (K : KeyKind P k enc ok) (hg : o.guard = none) (m : Operand) (t : TypeId) (hop : o.op = Op.range t m) (e : TypeId) (ht : P.underlying t = some (.map k e)) (b n : Nat) (M : α → Option Value) (hm : a.eval m = .map (some b)) (hk : KM P k enc w b n M)
    (hK : ∀ w' cnt, cnt ≤ n → KR P k enc w' b w.heap.size n M (fun _ => False) cnt → w.grownBy w' none → w'.heap.size = w.heap.size + 1 → wpList P ops Q rest (a.put o.dst (.pointer (some ⟨w.heap.size, 0, none⟩))) w') :
    wpList P ops Q (o :: rest) a w := by
  obtain ⟨D, hown, hD⟩ := hk
  have hz := hown.size_le
  refine wpList_range_own w hg m t hop k e K.law ht hvR b n D hm hown ?_
  intro w' h1 h2 h3
  exact hK w' _ hz ⟨D, _, h1, hD, fun x kl hkl => by rw [(hD x kl hkl).1]; simp⟩ h2 h3
theorem wpList_range_nil (hg : o.guard = none) (m : Operand) (t : TypeId) (hop : o.op = Op.range t m) (e : TypeId) (ht : P.underlying t = some (.map k e)) (hm : a.eval m = .map none)
    (hK : wpList P ops Q rest (a.put o.dst (.pointer (some ⟨w.heap.size, 0, none⟩))) (w.alloc (.mapIter none 0 #[] 0))) :
    wpList P ops Q (o :: rest) a w := by
  refine wpList_plain hg fun K' hK' => ?_
  have hrun := run_range_nilMap (P := P) w t k e ht
  unfold Oper.wp
  simp [execOp, hop, hm, hrun, Result.andThen]
  exact hK' _ _ hK
theorem wpList_next_nil (hg : o.guard = none) (it : Operand) (hop : o.op = Op.next it false) (r x y : Nat) (z : Array Nat) (hit : a.eval it = .pointer (some ⟨r, 0, none⟩)) (hr : w.heap[r]? = some (.mapIter none x z y))
    (hK : wpList P ops Q rest (a.put o.dst (.tuple #[.bool false])) w) : wpList P ops Q (o :: rest) a w := by
  refine wpList_plain hg fun K' hK' => ?_
  have hrun : (Instr.next (.pointer (some ⟨r, 0, none⟩)) false o.type).run P w = .ok (.tuple #[.bool false]) w := by
    simp only [Instr.next, getObj, Sem.run_bind, Sem.run, hr, Result.andThen]
    rfl
  unfold Oper.wp
  simp [execOp, hop, hit, hrun, Result.andThen]
  exact hK' _ _ hK
end
theorem jmem_ok {rs : List RoleE} (hn : ∀ e ∈ rs, RoleN e.t) {a y : ByteArray} (ha : a.size ≤ maxLen) (h : jmem (rs.map (·.t)) a y) : y.size ≤ maxLen := by
  rcases h with rfl | h
  · exact ha
  · obtain ⟨n, h1, h2, _⟩ := rch_dist.1 h
    obtain ⟨m, rfl⟩ : ∃ m, n = m + 1 := ⟨n - 1, by omega⟩
    obtain ⟨c, _, r, hr, _, hx⟩ := h2
    obtain ⟨e, he, rfl⟩ := List.mem_map.1 hr
    exact (hn e he).o1 _ hx
/-- What is under the first k of the names. -/
def JK (rs : List RoleT) (ns : List ByteArray) (k : Nat) (y : ByteArray) : Prop := ∃ i, ∃ h : i < ns.length, i < k ∧ ns[i] ∈ nms rs ∧ jmem rs ns[i] y
theorem JK.skip {rs : List RoleT} {ns : List ByteArray} {k : Nat} (hk : k < ns.length) (hn : ¬ ns[k] ∈ nms rs) (y : ByteArray) : JK rs ns k y ↔ JK rs ns (k + 1) y := by
  constructor
  · rintro ⟨i, hi, h1, h2⟩; exact ⟨i, hi, by omega, h2⟩
  · rintro ⟨i, hi, h1, h2, h3⟩
    refine ⟨i, hi, ?_, h2, h3⟩
    rcases Nat.lt_or_ge i k with h | h
    · exact h
    · obtain rfl : i = k := by omega
      exact absurd h2 hn
theorem JK.take {rs : List RoleT} {ns : List ByteArray} {k : Nat} (hk : k < ns.length) (hn : ns[k] ∈ nms rs) (y : ByteArray) : (JK rs ns k y ∨ jmem rs ns[k] y) ↔ JK rs ns (k + 1) y := by
  constructor
  · rintro (⟨i, hi, h1, h2⟩ | h)
    · exact ⟨i, hi, by omega, h2⟩
    · exact ⟨k, hk, by omega, hn, h⟩
  · rintro ⟨i, hi, h1, h2, h3⟩
    rcases Nat.lt_or_ge i k with h | h
    · exact .inl ⟨i, hi, h, h2, h3⟩
    · obtain rfl : i = k := by omega
      exact .inr h3
theorem JK.all (rs : List RoleT) (ns : List ByteArray) (y : ByteArray) : JK rs ns ns.length y ↔ ∃ a ∈ ns, a ∈ nms rs ∧ jmem rs a y := by
  constructor
  · rintro ⟨i, hi, _, h⟩; exact ⟨_, List.getElem_mem hi, h⟩
  · rintro ⟨a, ha, h⟩
    obtain ⟨i, hi, rfl⟩ := List.getElem_of_mem ha
    exact ⟨i, hi, hi, h⟩
theorem JM.name {w : World} {b1 : Nat} {rs : List RoleE} {tab : ByteArray → Option Nat} (h : JM w b1 rs rs.length tab) (s : ByteArray) : (tab s).isSome = true ↔ s ∈ nms (rs.map (·.t)) := by
  rw [h.has s]
  unfold nms
  rw [List.map_map, List.mem_map]
  constructor
  · rintro ⟨i, hi, _, e⟩; exact ⟨_, List.getElem_mem hi, e⟩
  · rintro ⟨e, he, h⟩
    obtain ⟨i, hi, rfl⟩ := List.getElem_of_mem he
    exact ⟨i, hi, hi, h⟩
theorem chM_val {P : ByteArray → Prop} {x : ByteArray} {v : Value} (h : chM P x = some v) : P x ∧ v = .agg #[] := by
  unfold chM at h
  split at h
  · next hx => exact ⟨hx, (Option.some.inj h).symm⟩
  · cases h
set_option maxRecDepth 40000 in
set_option maxHeartbeats 8000000 in
theorem juniorsAll_n (b1 b2 : Nat) (hp hg : Hd) (rs : List RoleE) (tab : ByteArray → Option Nat) (h : Hd) (ns : List ByteArray) (w : World) (hlen : ns.length ≤ 900) (hno : ∀ x ∈ ns, ByteArray.size x ≤ maxLen) (hn : ∀ e ∈ rs, RoleN e.t) (hJ : JM w b1 rs rs.length tab) (hs : SqS w 0 h ns) :
    Calls Tryz.prog 67 #[.agg #[.map (some b1), .map (some b2), .slice hp.a hp.len hp.cap, .slice hg.a hg.len hg.cap], .slice h.a h.len h.cap] w fun e w' => (∃ bo, e = .returned (.map (some bo)) ∧ KStr w' bo 1000000 (chM (fun y => ∃ a ∈ ns, a ∈ nms (rs.map (·.t)) ∧ jmem (rs.map (·.t)) a y))) ∧ Below w.heap.size w w' := by
  have HL := hide hs.1
  have HS := hide hs
  have HJ := hide hJ
  have HNO := hide hno
  have HN := hide hn
  have zb1 := hJ.top.lt
  obtain ⟨a, len, cap⟩ := h
  simp only at HL
  have L9 : len ≤ 900 := by have := unhide HL; omega
  obtain ⟨W, hW⟩ : ∃ W, W = (w.alloc (.cells #[.map (some b1), .map (some b2), .slice hp.a hp.len hp.cap, .slice hg.a hg.len hg.cap] 68)).alloc (.map #[] 0) := ⟨_, rfl⟩
  have K0 : Hid (KStr W (w.heap.size + 1) 0 (fun _ => none)) := hide (by rw [hW]; have := KM.made Tryz.prog 9 Value.string (w.alloc (.cells #[.map (some b1), .map (some b2), .slice hp.a hp.len hp.cap, .slice hg.a hg.len hg.cap] 68)); simpa using this)
  have B0 : Hid (Below w.heap.size w W) := hide (by rw [hW]; exact bAl (bAl (Below.refl _ _) _) _)
  have R0 : Hid (RowIs W w.heap.size #[.map (some b1), .map (some b2), .slice hp.a hp.len hp.cap, .slice hg.a hg.len hg.cap] 68) := hide (by rw [hW]; exact (RowIs.new w _ _).keep (bAl (Below.refl _ _) _))
  have HW := hide hW.symm
  have hmm := @run_makeMap Tryz.prog
  clear hs hJ hno hn hW hlen
  go_enter Tryz.func67, Tryz.ntmps67
  go_wp2_with fail
  rw [unhide HW]
  clear HW hmm
  go_loopw [12] (fun i w' => ∃ (k n : Nat), k ≤ len ∧ i = .int .i64 k ∧ n ≤ k * 1001 ∧ Hid (KStr w' (w.heap.size + 1) n (chM (JK (rs.map (·.t)) ns k))) ∧ Hid (RowIs w' w.heap.size #[.map (some b1), .map (some b2), .slice hp.a hp.len hp.cap, .slice hg.a hg.len hg.cap] 68) ∧ Hid (Below w.heap.size w w')) (fun i _ => len - (Go.RowKit.intOf i).toNat)
  case atStart => exact ⟨0, 0, Nat.zero_le _, rfl, by omega, hide (by have := unhide K0; rw [← chM_none] at this; rw [chM_congr (Q := fun _ => False) (fun y => ⟨fun ⟨_, _, h, _⟩ => absurd h (Nat.not_lt_zero _), fun h => h.elim⟩)]; exact this), R0, B0⟩
  case round =>
    clear K0 R0 B0
    obtain ⟨k, n, hk, rfl, hnk, K, R, B⟩ := hrel
    by_cases hlt : k < len
    case neg =>
      have ek : k = ns.length := by have := unhide HL; omega
      have FIN := hide (show KStr wr (w.heap.size + 1) 1000000 (chM (fun y => ∃ a ∈ ns, a ∈ nms (rs.map (·.t)) ∧ jmem (rs.map (·.t)) a y)) by
        have := (unhide K).more (show n ≤ 1000000 by omega)
        rw [ek] at this
        rw [← chM_congr (JK.all (rs.map (·.t)) ns)]
        exact this)
      clear K ek
      go_wp2_with fail
      go_ret
      exact ⟨⟨_, rfl, unhide FIN⟩, unhide B⟩
    have hk' : k < ns.length := by have := unhide HL; omega
    obtain ⟨b, off, e0, hrow⟩ := ((unhide HS).keep (unhide B)).sl.at hlt
    simp only at e0
    subst e0
    have c0 := hrow.c k hk'
    have o0 := unhide HNO _ (List.getElem_mem hk')
    have x0 := (unhide R).at (o := 0) (v := .map (some b1)) rfl
    have JW := (unhide HJ).keep (unhide B)
    have HT := hide JW.top
    have zK := (unhide K).lt
    have SKP : Hid (¬ ns[k] ∈ nms (rs.map (·.t)) → chM (JK (rs.map (·.t)) ns k) = chM (JK (rs.map (·.t)) ns (k + 1))) := hide (fun h => chM_congr (JK.skip hk' h))
    have TAK : Hid (ns[k] ∈ nms (rs.map (·.t)) → chM (fun y => JK (rs.map (·.t)) ns k y ∨ jmem (rs.map (·.t)) ns[k] y) = chM (JK (rs.map (·.t)) ns (k + 1))) := hide (fun h => chM_congr (JK.take hk' h))
    have NM := JW.name ns[k]
    have JO : Hid (∀ y, jmem (rs.map (·.t)) ns[k] y → ByteArray.size y ≤ maxLen) := hide (fun y hy => jmem_ok (unhide HN) o0 hy)
    cases hT : tab ns[k] with
    | none =>
      have e1 := hide (show ((topM tab) ns[k]).getD (.map none) = Value.map none by simp [topM, hT])
      have E1 := hide (unhide SKP (fun h => by have := NM.2 h; rw [hT] at this; cases this))
      clear SKP TAK NM hT hrow JW JO
      generalize ns[k] = s at *
      go_wp2_with (first
        | (at_lookup; refine wpList_get_km _ kStr rfl _ _ _ rfl _ Tryz.underlying66 (zeroSet _) b1 rs.length _ rfl (unhide HT) s rfl o0 _ (unhide e1) ?_)
        | (at_range; refine wpList_range_nil _ (k := 9) rfl _ _ rfl _ Tryz.underlying78 rfl ?_)
        | go_in)
      try go_frame
      have IT := hide (show (wr.alloc (.mapIter none 0 #[] 0)).heap[wr.heap.size]? = some (.mapIter none 0 #[] 0) from heap_alloc_new _ _)
      have bI := bAl (Below.refl wr.heap.size wr) (.mapIter none 0 #[] 0)
      have K2 := hide ((unhide K).keepB bI zK)
      have R2 := hide ((unhide R).keep bI)
      have B2 := hide (bTr (unhide B) bI)
      clear K R B bI x0 c0 HT e1 zK
      generalize wr.alloc (.mapIter none 0 #[] 0) = wi at *
      go_loopw [21] (fun _ w' => Hid (w'.heap[wr.heap.size]? = some (.mapIter none 0 #[] 0)) ∧ Hid (KStr w' (w.heap.size + 1) n (chM (JK (rs.map (·.t)) ns k))) ∧ Hid (RowIs w' w.heap.size #[.map (some b1), .map (some b2), .slice hp.a hp.len hp.cap, .slice hg.a hg.len hg.cap] 68) ∧ Hid (Below w.heap.size w w')) (fun _ _ => 0)
      case atStart => exact ⟨IT, K2, R2, B2⟩
      case round =>
        clear IT K2 R2 B2
        obtain ⟨IT, K, R, B⟩ := hrel
        go_wp2_with (first
          | (at_next; refine wpList_next_nil _ rfl _ rfl _ _ _ _ rfl (unhide IT) ?_)
          | go_in)
        have K3 := hide (show KStr wr (w.heap.size + 1) n (chM (JK (rs.map (·.t)) ns (k + 1))) by rw [← unhide E1]; exact unhide K)
        exact ⟨⟨k + 1, n, by omega, by go_num, by omega, K3, R, B⟩, by simp [Go.RowKit.intOf]; omega⟩
    | some b' =>
      have e1 := hide (show ((topM tab) ns[k]).getD (.map none) = Value.map (some b') by simp [topM, hT])
      have E1 := hide (unhide TAK (NM.1 (by rw [hT]; rfl)))
      have hkid := (unhide HJ).kid _ _ hT
      have zb := hkid.2.lt
      have KD := hide (hkid.2.keepB (unhide B) zb)
      clear SKP TAK NM hT hrow JW hkid
      generalize ns[k] = s at *
      go_wp2_with (first
        | (at_lookup; refine wpList_get_km _ kStr rfl _ _ _ rfl _ Tryz.underlying66 (zeroSet _) b1 rs.length _ rfl (unhide HT) s rfl o0 _ (unhide e1) ?_)
        | (at_range; refine wpList_range_kmB _ kStr rfl _ _ rfl _ Tryz.underlying78 b' 1001 _ rfl (unhide KD) ?_; intro w2 cnt2 hc2 hr2 hg2 hs2)
        | go_in)
      try go_frame
      obtain ⟨r2, hr2e⟩ : ∃ r, r = wr.heap.size := ⟨_, rfl⟩
      rw [← hr2e] at hr2
      rw [← hr2e]
      have RA := hide (show w.heap.size + 1 < r2 by omega)
      have bI : Below wr.heap.size wr w2 := Below.grown (Below.refl _ _) hg2 (Nat.le_refl _) (fun _ h => by cases h)
      have K2 := hide ((unhide K).keepB bI zK)
      have R2 := hide ((unhide R).keep bI)
      have B2 := hide (bTr (unhide B) bI)
      clear K R B bI x0 c0 HT e1 zK hg2 hs2 hr2e KD
      go_loopw [21] (fun _ w' => ∃ (done : Bs → Prop) (cnt m : Nat), KR Tryz.prog 9 Value.string w' b' r2 1001 (chM (jmem (rs.map (·.t)) s)) done cnt ∧ m + cnt ≤ k * 1001 + 1001 ∧ Hid (KStr w' (w.heap.size + 1) m (chM (fun y => JK (rs.map (·.t)) ns k y ∨ (done y ∧ jmem (rs.map (·.t)) s y)))) ∧ Hid (RowIs w' w.heap.size #[.map (some b1), .map (some b2), .slice hp.a hp.len hp.cap, .slice hg.a hg.len hg.cap] 68) ∧ Hid (Below w.heap.size w w')) (fun _ w' => w'.rangeLeft b' r2)
      case atStart => exact ⟨_, cnt2, n, hr2, by omega, hide (by rw [chM_congr (Q := JK (rs.map (·.t)) ns k) (fun y => ⟨fun h => h.elim id (fun h => h.1.elim), .inl⟩)]; exact unhide K2), R2, B2⟩
      case round =>
        clear hr2 K2 R2 B2
        obtain ⟨done, cnt, m, hr3, hm, K, R, B⟩ := hrel
        go_wp2_with (first
          | (at_next; refine wpList_next_km _ kStr rfl _ rfl b' r2 1001 _ _ _ rfl hr3 ?_ ?_)
          | go_in)
        · intro hd
          have K3 := hide (show KStr wr (w.heap.size + 1) m (chM (JK (rs.map (·.t)) ns (k + 1))) by
            rw [← unhide E1, ← chM_congr (P := fun y => JK (rs.map (·.t)) ns k y ∨ (done y ∧ jmem (rs.map (·.t)) s y)) (fun y => ⟨fun h => h.imp_right And.right, fun h => h.imp_right fun q => ⟨hd y (unhide JO y q) ((chM_some _ _).2 q), q⟩⟩)]
            exact unhide K)
          clear hd hr3 K
          go_wp2_with fail
          exact ⟨⟨k + 1, m, by omega, by go_num, by omega, K3, R, B⟩, by simp [Go.RowKit.intOf]; omega⟩
        · intro y v w3 cnt4 hy hM hnd hr4 hlt2 hg3 hs3 hen2
          obtain ⟨hxy, rfl⟩ := chM_val hM
          have hc3 := hide hr3.left
          have nB : w.heap.size ≤ r2 := by have := unhide RA; omega
          have K3 := hide ((unhide K).kept hg3 (fun e => by have := unhide RA; cases e; omega))
          have R3 := hide (rowG (unhide R) hg3 (by have := unhide RA; omega))
          have B3 := hide ((unhide B).grown hg3 (unhide B).size (fun k h => by cases h; exact nB))
          have qa := hide (add_any (w.heap.size + 1) m _ y w3 (unhide K3) (by unfold maxLen; omega) hy)
          have E3 : Hid (updK (chM (fun y => JK (rs.map (·.t)) ns k y ∨ (done y ∧ jmem (rs.map (·.t)) s y))) y (.agg #[]) = chM (fun z => JK (rs.map (·.t)) ns k z ∨ ((done z ∨ z = y) ∧ jmem (rs.map (·.t)) s z))) := hide (by
            rw [chM_upd]
            refine chM_congr fun z => ?_
            constructor
            · rintro ((h | ⟨h1, h2⟩) | rfl)
              · exact .inl h
              · exact .inr ⟨.inl h1, h2⟩
              · exact .inr ⟨.inr rfl, hxy⟩
            · rintro (h | ⟨h1 | rfl, h2⟩)
              · exact .inl (.inl h)
              · exact .inl (.inr ⟨h1, h2⟩)
              · exact .inr rfl)
          clear hM hnd hg3 hs3 hxy hr3 K R B hy K3
          go_wp2_with fail
          refine (unhide qa).mono ?_
          rintro e w5 ⟨rfl, hk5, hg5, hs5⟩
          have K5 : Hid (KStr w5 (w.heap.size + 1) (m + 1) (chM (fun z => JK (rs.map (·.t)) ns k z ∨ ((done z ∨ z = y) ∧ jmem (rs.map (·.t)) s z)))) := hide (by rw [← unhide E3]; exact hk5)
          have R5 := hide (rowG (unhide R3) hg5 (by omega))
          have B5 := hide ((unhide B3).grown hg5 (unhide B3).size (fun k h => by cases h; omega))
          have Q5 := hr4.kept hg5 (fun e => by cases e; omega) (fun e => by have := unhide RA; cases e; omega)
          clear hk5 hg5 hs5 qa hr4 hen2 R3 B3 E3
          go_wp2_with fail
          exact ⟨⟨_, cnt4, m + 1, Q5, by omega, K5, R5, B5⟩, by rw [Q5.left, unhide hc3]; exact hlt2⟩
end Go.Proofs.YtfbncneeimikcaaGreat.V
/- The depths of grants in memory: a map of maps of numbers; (impl.grantDepths).counts and .add. -/
namespace Go.Proofs.YtfbncneeimikcaaGreat.V
set_option linter.unusedSimpArgs false
set_option linter.unusedVariables false
open Go.RowKit Go.Maps

section
variable {P : Program} {k : TypeId} {α : Type} {enc : α → Value} {ok : α → Prop} (w : World) {ops : Array Oper} {rest : List Oper} {o : Oper} {a : Act} {Q : Exit → Act → World → Prop}
/-- 'v, ok := m[x]' where m is nil. -/
theorem wpList_look_nil (K : KeyKind P k enc ok) (hg : o.guard = none) (m x : Operand) (t : TypeId) (hop : o.op = Op.lookup t m x true) (e : TypeId) (ht : P.underlying t = some (.map k e)) {z : Value} (hz : (zeroValue e).run P w = .ok z w) (hm : a.eval m = .map none)
    (y : α) (hx : a.eval x = enc y) (hy : ok y) (hK : wpList P ops Q rest (a.put o.dst (.tuple #[z, .bool false])) w) : wpList P ops Q (o :: rest) a w := by
  obtain ⟨kl, hkl⟩ := K.key y hy
  have hrun := Maps.look_nil (w := w) true K.law ht hz hkl
  refine wpList_plain hg fun K' hK' => ?_
  unfold Oper.wp
  simp at hrun
  simp [execOp, hop, hm, hx, hrun, Result.andThen]
  exact hK' _ _ hK
end
/-- Block bd has for each user a map that has for each role a Depth: L tells them, tab where the users' maps are. -/
structure DM (w : World) (lo bd n : Nat) (L : ByteArray → ByteArray → Option Nat) (tab : ByteArray → Option Nat) : Prop where
  base : lo ≤ bd
  top : KStr w bd n (topM tab)
  kid : ∀ a b, tab a = some b → KStr w b n (intM (L a))
  inj : ∀ a a' b, tab a = some b → tab a' = some b → a = a'
  ge : ∀ a b, tab a = some b → lo ≤ b ∧ b ≠ bd
  no : ∀ a r, tab a = none → L a r = none
theorem DM.keep {w w' : World} {lo bd n : Nat} {L : ByteArray → ByteArray → Option Nat} {tab : ByteArray → Option Nat} (h : DM w lo bd n L tab) (hb : Below w.heap.size w w') : DM w' lo bd n L tab :=
  ⟨h.base, h.top.keepB hb h.top.lt, fun a b e => (h.kid a b e).keepB hb (h.kid a b e).lt, h.inj, h.ge, h.no⟩
theorem DM.more {w : World} {lo bd n n' : Nat} {L : ByteArray → ByteArray → Option Nat} {tab : ByteArray → Option Nat} (h : DM w lo bd n L tab) (hn : n ≤ n') : DM w lo bd n' L tab :=
  ⟨h.base, h.top.more hn, fun a b e => (h.kid a b e).more hn, h.inj, h.ge, h.no⟩
theorem DM.made (w : World) (lo : Nat) (h : lo ≤ w.heap.size) : DM (w.alloc (.map #[] 0)) lo w.heap.size 0 (fun _ _ => none) (fun _ => none) :=
  ⟨h, KM.made _ _ _ _, (fun a b e => by cases e), (fun a a' b e => by cases e), (fun a b e => by cases e), (fun a r h => rfl)⟩
theorem zeroDep (w : World) : (zeroValue 130).run Tryz.prog w = .ok (.map none) w := by kernel_rfl
theorem eqDepS (b : Nat) (w : World) : (binOp BinOp.eql 130 (.map (some b)) (.map none)).run Tryz.prog w = .ok (.bool false) w := by kernel_rfl
theorem eqDepN (w : World) : (binOp BinOp.eql 130 (.map none) (.map none)).run Tryz.prog w = .ok (.bool true) w := by kernel_rfl
set_option maxRecDepth 40000 in
set_option maxHeartbeats 4000000 in
theorem counts_n (lo bd n : Nat) (L : ByteArray → ByteArray → Option Nat) (tab : ByteArray → Option Nat) (f0 f1 f2 : ByteArray) (f3 f4 f5 t : Int) (w : World) (hG : DM w lo bd n L tab) (h1 : f1.size ≤ maxLen) (h2 : f2.size ≤ maxLen) :
    Calls Tryz.prog 91 #[.map (some bd), .agg #[.string f0, .string f1, .string f2, .int .i64 f3, .int .i64 f4, .int .i64 f5], .int .i64 t] w fun e w' => RetB e (t ≤ f3 ∧ (f2 = ⟨#[]⟩ ∨ ∃ m, L f2 f1 = some m ∧ (m : Int) < f4)) ∧ Below w.heap.size w w' := by
  have B := hide (bAl (Below.refl w.heap.size w) (.cells #[.string f0, .string f1, .string f2, .int .i64 f3, .int .i64 f4, .int .i64 f5] 112))
  obtain ⟨G, hGG⟩ : ∃ G : Prop, G = (t ≤ f3 ∧ (f2 = ⟨#[]⟩ ∨ ∃ m, L f2 f1 = some m ∧ (m : Int) < f4)) := ⟨_, rfl⟩
  have D : Hid (G ↔ (t ≤ f3 ∧ (f2 = ⟨#[]⟩ ∨ ∃ m, L f2 f1 = some m ∧ (m : Int) < f4))) := hide (by rw [hGG])
  rw [← hGG]
  clear hGG
  have GK := hG.keep (unhide B)
  have HT := hide GK.top
  cases hT : tab f2 with
  | none =>
    have e1 := hide (show ((topM tab) f2).getD (.map none) = Value.map none by simp [topM, hT])
    have HX := hide (hG.no f2 f1 hT)
    clear hG GK hT
    by_cases e3 : t ≤ f3
    case neg =>
      have d3 : decide (t ≤ f3) = false := decide_eq_false e3
      have no : Hid (¬ G) := hide (fun h => e3 ((unhide D).1 h).1)
      clear D e3 HX
      go_enter Tryz.func91, Tryz.ntmps91
      go_wp2_with (first | (at_lookup; refine wpList_get_km _ kStr rfl _ _ _ rfl _ Tryz.underlying70 (zeroDep _) bd n _ rfl (unhide HT) f2 rfl h2 _ (unhide e1) ?_) | (at_lookup; refine wpList_look_nil _ kStr rfl _ _ _ rfl _ Tryz.underlying130 (zeroInt _) rfl f1 rfl h1 ?_))
      go_ret
      exact ⟨retB (b := false) ⟨fun h => (by cases h), fun h => absurd h (unhide no)⟩, unhide B⟩
    have d3 : decide (t ≤ f3) = true := decide_eq_true e3
    by_cases e4 : f2 = ⟨#[]⟩
    · have d4 : (f2.toList == []) = true := by rw [e4]; simp
      have yes : Hid G := hide ((unhide D).2 ⟨e3, .inl e4⟩)
      clear D e3 e4 HX
      go_enter Tryz.func91, Tryz.ntmps91
      go_wp2_with (first | (at_lookup; refine wpList_get_km _ kStr rfl _ _ _ rfl _ Tryz.underlying70 (zeroDep _) bd n _ rfl (unhide HT) f2 rfl h2 _ (unhide e1) ?_) | (at_lookup; refine wpList_look_nil _ kStr rfl _ _ _ rfl _ Tryz.underlying130 (zeroInt _) rfl f1 rfl h1 ?_))
      go_ret
      exact ⟨retB (b := true) ⟨fun _ => unhide yes, fun _ => rfl⟩, unhide B⟩
    have d4 : (f2.toList == []) = false := by have := str_neO e4; simpa using this
    have no : Hid (¬ G) := hide (fun h => by
      rcases ((unhide D).1 h).2 with h | ⟨m', h, h'⟩
      · exact e4 h
      · rw [unhide HX] at h; cases h)
    clear D e3 e4 HX
    go_enter Tryz.func91, Tryz.ntmps91
    go_wp2_with (first | (at_lookup; refine wpList_get_km _ kStr rfl _ _ _ rfl _ Tryz.underlying70 (zeroDep _) bd n _ rfl (unhide HT) f2 rfl h2 _ (unhide e1) ?_) | (at_lookup; refine wpList_look_nil _ kStr rfl _ _ _ rfl _ Tryz.underlying130 (zeroInt _) rfl f1 rfl h1 ?_))
    go_ret
    exact ⟨retB (b := false) ⟨fun h => (by cases h), fun h => absurd h (unhide no)⟩, unhide B⟩

  | some b =>
    have e1 := hide (show ((topM tab) f2).getD (.map none) = Value.map (some b) by simp [topM, hT])
    have HK := hide (GK.kid f2 b hT)
    clear hG GK hT
    cases hL : L f2 f1 with
    | none =>
      have HX := hide hL
      have er := hide (show (intM (L f2) f1).isSome = false by simp [intM, hL])
      have ev := hide (show (intM (L f2) f1).getD (.int .i64 0) = .int .i64 0 by simp [intM, hL])
      clear hL
      by_cases e3 : t ≤ f3
      case neg =>
        have d3 : decide (t ≤ f3) = false := decide_eq_false e3
        have no : Hid (¬ G) := hide (fun h => e3 ((unhide D).1 h).1)
        clear D e3 HX
        go_enter Tryz.func91, Tryz.ntmps91
        go_wp2_with (first | (at_lookup; refine wpList_get_km _ kStr rfl _ _ _ rfl _ Tryz.underlying70 (zeroDep _) bd n _ rfl (unhide HT) f2 rfl h2 _ (unhide e1) ?_) | (at_lookup; refine wpList_look_km _ kStr rfl _ _ _ rfl _ Tryz.underlying130 (zeroInt _) b n _ rfl (unhide HK) f1 rfl h1 _ _ (unhide ev) (unhide er) ?_))
        go_ret
        exact ⟨retB (b := false) ⟨fun h => (by cases h), fun h => absurd h (unhide no)⟩, unhide B⟩
      have d3 : decide (t ≤ f3) = true := decide_eq_true e3
      by_cases e4 : f2 = ⟨#[]⟩
      · have d4 : (f2.toList == []) = true := by rw [e4]; simp
        have yes : Hid G := hide ((unhide D).2 ⟨e3, .inl e4⟩)
        clear D e3 e4 HX
        go_enter Tryz.func91, Tryz.ntmps91
        go_wp2_with (first | (at_lookup; refine wpList_get_km _ kStr rfl _ _ _ rfl _ Tryz.underlying70 (zeroDep _) bd n _ rfl (unhide HT) f2 rfl h2 _ (unhide e1) ?_) | (at_lookup; refine wpList_look_km _ kStr rfl _ _ _ rfl _ Tryz.underlying130 (zeroInt _) b n _ rfl (unhide HK) f1 rfl h1 _ _ (unhide ev) (unhide er) ?_))
        go_ret
        exact ⟨retB (b := true) ⟨fun _ => unhide yes, fun _ => rfl⟩, unhide B⟩
      have d4 : (f2.toList == []) = false := by have := str_neO e4; simpa using this
      have no : Hid (¬ G) := hide (fun h => by
        rcases ((unhide D).1 h).2 with h | ⟨m', h, h'⟩
        · exact e4 h
        · rw [unhide HX] at h; cases h)
      clear D e3 e4 HX
      go_enter Tryz.func91, Tryz.ntmps91
      go_wp2_with (first | (at_lookup; refine wpList_get_km _ kStr rfl _ _ _ rfl _ Tryz.underlying70 (zeroDep _) bd n _ rfl (unhide HT) f2 rfl h2 _ (unhide e1) ?_) | (at_lookup; refine wpList_look_km _ kStr rfl _ _ _ rfl _ Tryz.underlying130 (zeroInt _) b n _ rfl (unhide HK) f1 rfl h1 _ _ (unhide ev) (unhide er) ?_))
      go_ret
      exact ⟨retB (b := false) ⟨fun h => (by cases h), fun h => absurd h (unhide no)⟩, unhide B⟩

    | some m =>
      have HX := hide hL
      have er := hide (show (intM (L f2) f1).isSome = true by simp [intM, hL])
      have ev := hide (show (intM (L f2) f1).getD (.int .i64 0) = .int .i64 m by simp [intM, hL])
      clear hL
      by_cases e3 : t ≤ f3
      case neg =>
        have d3 : decide (t ≤ f3) = false := decide_eq_false e3
        have no : Hid (¬ G) := hide (fun h => e3 ((unhide D).1 h).1)
        clear D e3 HX
        go_enter Tryz.func91, Tryz.ntmps91
        go_wp2_with (first | (at_lookup; refine wpList_get_km _ kStr rfl _ _ _ rfl _ Tryz.underlying70 (zeroDep _) bd n _ rfl (unhide HT) f2 rfl h2 _ (unhide e1) ?_) | (at_lookup; refine wpList_look_km _ kStr rfl _ _ _ rfl _ Tryz.underlying130 (zeroInt _) b n _ rfl (unhide HK) f1 rfl h1 _ _ (unhide ev) (unhide er) ?_))
        go_ret
        exact ⟨retB (b := false) ⟨fun h => (by cases h), fun h => absurd h (unhide no)⟩, unhide B⟩
      have d3 : decide (t ≤ f3) = true := decide_eq_true e3
      by_cases e4 : f2 = ⟨#[]⟩
      · have d4 : (f2.toList == []) = true := by rw [e4]; simp
        have yes : Hid G := hide ((unhide D).2 ⟨e3, .inl e4⟩)
        clear D e3 e4 HX
        go_enter Tryz.func91, Tryz.ntmps91
        go_wp2_with (first | (at_lookup; refine wpList_get_km _ kStr rfl _ _ _ rfl _ Tryz.underlying70 (zeroDep _) bd n _ rfl (unhide HT) f2 rfl h2 _ (unhide e1) ?_) | (at_lookup; refine wpList_look_km _ kStr rfl _ _ _ rfl _ Tryz.underlying130 (zeroInt _) b n _ rfl (unhide HK) f1 rfl h1 _ _ (unhide ev) (unhide er) ?_))
        go_ret
        exact ⟨retB (b := true) ⟨fun _ => unhide yes, fun _ => rfl⟩, unhide B⟩
      have d4 : (f2.toList == []) = false := by have := str_neO e4; simpa using this
      by_cases e5 : (m : Int) < f4
      · have d5 : decide ((m : Int) < f4) = true := decide_eq_true e5
        have yes : Hid G := hide ((unhide D).2 ⟨e3, .inr ⟨m, unhide HX, e5⟩⟩)
        clear D e3 e4 e5 HX
        go_enter Tryz.func91, Tryz.ntmps91
        go_wp2_with (first | (at_lookup; refine wpList_get_km _ kStr rfl _ _ _ rfl _ Tryz.underlying70 (zeroDep _) bd n _ rfl (unhide HT) f2 rfl h2 _ (unhide e1) ?_) | (at_lookup; refine wpList_look_km _ kStr rfl _ _ _ rfl _ Tryz.underlying130 (zeroInt _) b n _ rfl (unhide HK) f1 rfl h1 _ _ (unhide ev) (unhide er) ?_))
        go_ret
        exact ⟨retB (b := true) ⟨fun _ => unhide yes, fun _ => rfl⟩, unhide B⟩
      have d5 : decide ((m : Int) < f4) = false := decide_eq_false e5
      have no : Hid (¬ G) := hide (fun h => by
        rcases ((unhide D).1 h).2 with h | ⟨m', h, h'⟩
        · exact e4 h
        · rw [unhide HX] at h; cases h; exact e5 h')
      clear D e3 e4 e5 HX
      go_enter Tryz.func91, Tryz.ntmps91
      go_wp2_with (first | (at_lookup; refine wpList_get_km _ kStr rfl _ _ _ rfl _ Tryz.underlying70 (zeroDep _) bd n _ rfl (unhide HT) f2 rfl h2 _ (unhide e1) ?_) | (at_lookup; refine wpList_look_km _ kStr rfl _ _ _ rfl _ Tryz.underlying130 (zeroInt _) b n _ rfl (unhide HK) f1 rfl h1 _ _ (unhide ev) (unhide er) ?_))
      go_ret
      exact ⟨retB (b := false) ⟨fun h => (by cases h), fun h => absurd h (unhide no)⟩, unhide B⟩

end Go.Proofs.YtfbncneeimikcaaGreat.V
