/- spec.l15Under. -/
import Derived.Test.YtfabfgokammmhaaOSa
import Derived.Test.YtfabfgokammmhaaGSor
import Derived.Laws.OwnMore
namespace Go.Proofs.Ytfabfgokammmhaa.V
set_option linter.unusedSimpArgs false
set_option linter.unusedVariables false
open Go.RowKit Go.Maps

theorem sls_both {w : World} {a : Option Addr} {len : Nat} {l : List ByteArray} (h : SlS w a len l) : Go.Proofs.Ytfabfgokammmhaa.SlS w a len l := ⟨h.1, h.2.imp id fun ⟨b, off, e, r⟩ => ⟨b, off, e, ⟨r.z, r.c⟩⟩⟩
theorem sls_back {w : World} {a : Option Addr} {len : Nat} {l : List ByteArray} (h : Go.Proofs.Ytfabfgokammmhaa.SlS w a len l) : SlS w a len l := ⟨h.1, h.2.imp id fun ⟨b, off, e, r⟩ => ⟨b, off, e, ⟨r.z, r.c⟩⟩⟩
theorem run_append_none_cap {P : Program} {w : World} (base : Nat) (t ty e : TypeId) (i : TypeInfo) (size c : Nat) (ht : P.underlying t = some (.slice e)) (hi : P.info? e = some i)
    (v : Value) (n : Nat) (xs : List Value) (hown : w.ownsRow base e size v n xs) :
    (Builtin.append_ #[t, t] ty #[v, .slice none 0 c]).run P w = .ok v w := by
  rcases hown.2 with ⟨rfl, rfl⟩ | ⟨g, cap, cur, rfl, _, _, hnc, _⟩
  · simp [Builtin.append_, run_underlying ht, sizeOf, typeInfo, hi, Builtin.lenOf, Builtin.firstCells]
  · simp [Builtin.append_, run_underlying ht, sizeOf, typeInfo, hi, Builtin.lenOf, Builtin.firstCells, hnc, storeCells]
/-- append(v, x...), whatever slice x is. -/
theorem wpList_append_sl {P : Program} (w : World) {ops : Array Oper} {rest : List Oper} {o : Oper} {a : Act} {Q : Exit → Act → World → Prop} (hgd : o.guard = none) (s x : Operand) (t : TypeId)
    (ho : o.op = .call { callee := .builtin .append, args := #[s, x], argTypes := #[t, t] })
    (base : Nat) (e : TypeId) (i : TypeInfo) (z : Value) (size bytes : Nat) (ht : P.underlying t = some (.slice e)) (hi : P.info? e = some i) (hz : i.zero = some z)
    (hsize : i.size = size) (hby : i.bytes = bytes) (hzs : z.cells.size = size) (hsz : 0 < size)
    (v : Value) (n : Nat) (xs : List Value) (hs : a.eval s = v) (hown : w.ownsRow base e size v n xs)
    (ao : Option Addr) (m c : Nat) (news : List Value) (hx : a.eval x = .slice ao m c) (hao : ao = none → m = 0) (hl : news.length = m * size) (hnews : ∀ ad, ao = some ad → ∀ j u, news[j]? = some u → w.cell? (ad.add j) = some u) (h1 : ∀ u ∈ news, u.oneCell' = true)
    (h63 : n + m ≤ maxLen) (hbytes : (n + m) * bytes ≤ 140737488355328) (hbase : base ≤ w.heap.size)
    (h : ∀ v' w', w'.ownsRow base e size v' (n + m) (xs ++ news) → w.grownBy w' v.ownBlock → (v'.ownBlock = v.ownBlock ∨ v'.ownBlock = some w.heap.size) → wpList P ops Q rest (a.put o.dst v') w') :
    wpList P ops Q (o :: rest) a w := by
  cases ao with
  | some ad => exact wpList_append_own_at w hgd s x t ho base e i z size bytes ht hi hz hsize hby hzs hsz v n xs hs hown ad m c news hx hl (hnews ad rfl) h1 h63 hbytes hbase fun v' w' h2 h3 _ h5 => h v' w' h2 h3 h5
  | none =>
    obtain rfl := hao rfl
    have hn : news = [] := List.eq_nil_of_length_eq_zero (by simpa using hl)
    subst hn
    have hr := run_append_none_cap (P := P) (w := w) base t o.type e i size c ht hi v n xs hown
    have h2 : w.ownsRow base e size v (n + 0) (xs ++ []) := by simpa using hown
    have := h v w h2 ⟨rfl, rfl, rfl, Nat.le_refl _, fun _ _ _ => rfl⟩ (.inl rfl)
    refine wpList_plain hgd fun K hK => ?_
    unfold Oper.wp execOp
    simp only [ho, resolve, invoke, builtin, Sem.run_bind, Sem.run_pure, Result.andThen_ok, List.map_toArray, List.map_cons, List.map_nil, hs, hx, hr]
    exact hK _ _ this
theorem sls_news {w : World} {h : Hd} {l : List ByteArray} (s : SqS w 0 h l) : (h.a = none → h.len = 0) ∧ ∀ ad, h.a = some ad → ∀ j u, (l.map Value.string)[j]? = some u → w.cell? (ad.add j) = some u := by
  refine ⟨fun e => ?_, fun ad e j u hj => ?_⟩
  · rcases s.2 with h0 | ⟨b, off, e1, _⟩
    · rw [s.1, h0]; rfl
    · rw [e] at e1; cases e1
  · rcases s.2 with h0 | ⟨b, off, e1, _, r⟩
    · subst h0; simp at hj
    · rw [e] at e1
      cases e1
      rw [List.getElem?_map] at hj
      cases hl : l[j]? with
      | none => rw [hl] at hj; cases hj
      | some x =>
        rw [hl] at hj
        obtain ⟨hlt, rfl⟩ := List.getElem?_eq_some_iff.1 hl
        have := r.c j hlt
        cases hj
        by_cases h0 : j = 0
        · subst h0; simpa [Addr.add] using this
        · simpa [Addr.add, h0] using this

/-- Going under, a list that grows: those ahead of k are done. -/
structure UnI (P : ByteArray → List ByteArray) (U ns L : List ByteArray) (k : Nat) : Prop where
  pre : ∃ X, L = ns ++ X ∧ X.Nodup ∧ ∀ x ∈ X, x ∈ U
  un : ∀ x ∈ L, UnF P ns x
  cl : ∀ i (h : i < L.length), i < k → ∀ p ∈ P L[i], p ∈ L
open Classical in
theorem UnI.len {P : ByteArray → List ByteArray} {U ns L : List ByteArray} {k : Nat} (h : UnI P U ns L k) : L.length ≤ ns.length + U.length := by
  obtain ⟨X, rfl, h1, h2⟩ := h.pre
  have := nodup_le X U h1 h2
  rw [List.length_append]; omega
theorem UnI.ok {P : ByteArray → List ByteArray} {U ns L : List ByteArray} {k : Nat} (h : UnI P U ns L k) {Q : ByteArray → Prop} (h1 : ∀ x ∈ ns, Q x) (h2 : ∀ x ∈ U, Q x) : ∀ x ∈ L, Q x := by
  obtain ⟨X, rfl, _, h3⟩ := h.pre
  intro x hx
  rcases List.mem_append.1 hx with e | e
  · exact h1 x e
  · exact h2 x (h3 x e)
theorem UnI.all {P : ByteArray → List ByteArray} {U ns L : List ByteArray} {k : Nat} (h : UnI P U ns L k) (hk : L.length ≤ k) (x : ByteArray) : x ∈ L ↔ UnF P ns x :=
  ⟨h.un x, fun hx => by
    induction hx with
    | base hb => obtain ⟨X, rfl, _⟩ := h.pre; exact List.mem_append_left _ hb
    | next _ hy ih =>
      obtain ⟨i, hi, rfl⟩ := List.getElem_of_mem ih
      exact h.cl i hi (by omega) _ hy⟩
/-- Within: of what stands under the k-th the first m are there. -/
structure UnJ (P : ByteArray → List ByteArray) (U ns L0 L : List ByteArray) (k : Nat) (ps : List ByteArray) (m : Nat) : Prop where
  i : UnI P U ns L k
  ext : ∃ X, L = L0 ++ X
  ps : ∀ j (h : j < ps.length), j < m → ps[j] ∈ L
theorem UnJ.skip {P : ByteArray → List ByteArray} {U ns L0 L : List ByteArray} {k : Nat} {ps : List ByteArray} {m : Nat} (h : UnJ P U ns L0 L k ps m) (hm : m < ps.length) (hin : ps[m] ∈ L) : UnJ P U ns L0 L k ps (m + 1) :=
  ⟨h.i, h.ext, fun j hj hjm => by
    rcases Nat.lt_or_ge j m with h2 | h2
    · exact h.ps j hj h2
    · obtain rfl : j = m := by omega
      exact hin⟩
theorem UnJ.take {P : ByteArray → List ByteArray} {U ns L0 L : List ByteArray} {k : Nat} {ps : List ByteArray} {m : Nat} (h : UnJ P U ns L0 L k ps m) (hm : m < ps.length) (hin : ¬ ps[m] ∈ L) (hup : UnF P ns ps[m]) (hU : ps[m] ∈ U) (hk : k ≤ L.length) : UnJ P U ns L0 (L ++ [ps[m]]) k ps (m + 1) := by
  refine ⟨⟨?_, fun x hx => ?_, fun i hi hik p hp => ?_⟩, ?_, fun j hj hjm => ?_⟩
  · obtain ⟨X, rfl, h1, h2⟩ := h.i.pre
    refine ⟨X ++ [ps[m]], by rw [List.append_assoc], ?_, fun x hx => ?_⟩
    · rw [List.nodup_append]
      exact ⟨h1, List.nodup_cons.2 ⟨by simp, List.nodup_nil⟩, fun x hx y hy e => by simp at hy; subst hy; exact hin (List.mem_append_right _ (e ▸ hx))⟩
    · rcases List.mem_append.1 hx with hx | hx
      · exact h2 x hx
      · simp at hx; rw [hx]; exact hU
  · rcases List.mem_append.1 hx with hx | hx
    · exact h.i.un x hx
    · simp at hx; rw [hx]; exact hup
  · have hi' : i < L.length := by omega
    rw [List.getElem_append_left hi'] at hp
    exact List.mem_append_left _ (h.i.cl i hi' hik p hp)
  · obtain ⟨X, rfl⟩ := h.ext
    exact ⟨X ++ [ps[m]], by rw [List.append_assoc]⟩
  · rcases Nat.lt_or_ge j m with h2 | h2
    · exact List.mem_append_left _ (h.ps j hj h2)
    · obtain rfl : j = m := by omega
      exact List.mem_append_right _ (by simp)
theorem UnJ.done {P : ByteArray → List ByteArray} {U ns L0 L : List ByteArray} {k : Nat} {ps : List ByteArray} {m : Nat} (h : UnJ P U ns L0 L k ps m) (hk : k < L0.length) (hp : P L0[k] = ps) (hm : ps.length ≤ m) : UnI P U ns L (k + 1) ∧ L0.length ≤ L.length := by
  obtain ⟨X, rfl⟩ := h.ext
  refine ⟨⟨h.i.pre, h.i.un, fun i hi hik p hpp => ?_⟩, by simp⟩
  rcases Nat.lt_or_ge i k with h2 | h2
  · exact h.i.cl i hi h2 p hpp
  · obtain rfl : i = k := by omega
    rw [List.getElem_append_left hk, hp] at hpp
    obtain ⟨j, hj, rfl⟩ := List.getElem_of_mem hpp
    exact h.ps j hj (by omega)
theorem row_grownO {w w' : World} {b : Nat} {C : Array Value} {T : TypeId} {row : Option Nat} (h : RowIs w b C T) (hg : w.grownBy w' row) (hne : some b ≠ row) : RowIs w' b C T := by
  have hl := h.lt
  unfold RowIs at *; rw [hg.block b hl hne]; exact h
/-- All that stands under something. -/
def allU (rs : List RoleE) : List ByteArray := rs.flatMap fun e => e.t.f1
theorem allU_len {rs : List RoleE} {e : RoleE} (he : e ∈ rs) : e.t.f1.length ≤ (allU rs).length := by
  induction rs with
  | nil => cases he
  | cons x rs ih =>
    unfold allU
    rw [List.flatMap_cons, List.length_append]
    rcases List.mem_cons.1 he with rfl | h
    · omega
    · have := ih h; unfold allU at this; omega
set_option maxRecDepth 20000 in
set_option maxHeartbeats 8000000 in
theorem l15Under_n (h0 h1 h2 : Hd) (rs : List RoleE) (hd : Hd) (ns : List ByteArray) (w : World) (hl : rs.length ≤ maxLen) (hs : SqRoleE w 0 h0 rs) (hn : ∀ e ∈ rs, RoleN e.t) (hU : (allU rs).length ≤ 20000) (sl : SqS w 0 hd ns) (hnl : ns.length ≤ 20000) (hno : ∀ x ∈ ns, ByteArray.size x ≤ maxLen) :
    Calls Try.prog 17 #[.agg #[.slice h0.a h0.len h0.cap, .slice h1.a h1.len h1.cap, .slice h2.a h2.len h2.cap], .slice hd.a hd.len hd.cap] w fun r w' => (∃ v rr, r = .returned v ∧ (RisS rr ∧ (∀ x, x ∈ rr ↔ UnF (undR (rs.map (·.t))) ns x) ∧ rr.length ≤ 40000) ∧ w'.ownsRow w.heap.size 9 1 v rr.length (rr.map Value.string)) ∧ Below w.heap.size w w' := by
  have oks : Hid (∀ x ∈ allU rs, ByteArray.size x ≤ maxLen) := hide (fun x hx => by
    obtain ⟨e, he, hx⟩ := List.mem_flatMap.1 hx
    exact (hn e he).o1 x hx)
  have okn := hide hno
  obtain ⟨P, hP⟩ : ∃ P, P = undR (rs.map (·.t)) := ⟨_, rfl⟩
  rw [← hP]
  have PF : Hid (∀ x (e : RoleE) (b : Bool), rs.find? (fun c => decide (c.t.f0 = x)) = (if b = true then some e else none) → (b = false → e.h1 = ⟨none, 0, 0⟩ ∧ e.h2 = ⟨none, 0, 0⟩) → SqS w 0 e.h1 (P x) ∧ (∀ p ∈ P x, p ∈ allU rs) ∧ (P x).length ≤ 20000) := hide (fun x e b hf hb => by
    rw [hP]
    unfold undR fstR
    rw [List.find?_map]
    have h0 : rs.find? ((fun t : RoleT => decide (t.f0 = x)) ∘ (fun e : RoleE => e.t)) = (if b = true then some e else none) := hf
    rw [h0]
    cases b
    · rw [(hb rfl).1]
      show SqS w 0 ⟨none, 0, 0⟩ ([] : List ByteArray) ∧ (∀ p ∈ ([] : List ByteArray), p ∈ allU rs) ∧ ([] : List ByteArray).length ≤ 20000
      exact ⟨⟨rfl, .inl rfl⟩, fun p hp => (by cases hp), Nat.zero_le _⟩
    · have he := List.mem_of_find?_eq_some hf
      exact ⟨(hs.2.2 e he).m1, fun p hp => List.mem_flatMap.2 ⟨e, he, hp⟩, Nat.le_trans (allU_len he) hU⟩)
  have q1 := hide (fun (x : ByteArray) (w' : World) (hb : Below w.heap.size w w') => l15Role_n h0 h1 h2 rs x w' hl (hs.keep hb))
  obtain ⟨U, hUU⟩ : ∃ U, U = allU rs := ⟨_, rfl⟩
  rw [← hUU] at hU oks PF
  obtain ⟨i0, hi, hz0, hz1, hz2⟩ := info_parts info_str
  obtain ⟨nw1, nw2⟩ := sls_news (sl.keep (bAl (Below.refl w.heap.size w) (.cells #[.slice h0.a h0.len h0.cap, .slice h1.a h1.len h1.cap, .slice h2.a h2.len h2.cap] 32)))
  have NW2 := hide nw2
  have HDL := hide sl.1
  obtain ⟨ha, hlen, hcap⟩ := hd
  simp only at NW2 HDL nw1
  have LD : hlen ≤ 20000 := by have := unhide HDL; omega
  have NL : Hid ((ns.map Value.string).length = hlen * 1) := hide (by have := unhide HDL; simp; omega)
  have O : Hid (∀ w', World.ownsRow w' w.heap.size 9 1 (.slice none 0 0) 0 []) := hide (fun w' => World.ownsRow_nil _ _ _ _)
  have ONE : Hid (∀ u ∈ ns.map Value.string, u.oneCell' = true) := hide (fun u hu => by obtain ⟨x, _, rfl⟩ := List.mem_map.1 hu; rfl)
  have R := hide (RowIs.new w #[.slice h0.a h0.len h0.cap, .slice h1.a h1.len h1.cap, .slice h2.a h2.len h2.cap] 32)
  have B := hide (bAl (Below.refl w.heap.size w) (.cells #[.slice h0.a h0.len h0.cap, .slice h1.a h1.len h1.cap, .slice h2.a h2.len h2.cap] 32))
  have I0 : Hid (UnI P U ns ns 0) := hide ⟨⟨[], by simp, List.nodup_nil, fun x hx => (by cases hx)⟩, fun x hx => .base hx, fun i _ h => absurd h (Nat.not_lt_zero _)⟩
  have HUL := hide hU
  have HNL := hide hnl
  clear hn hl hs hP hU hUU sl nw2 hno hnl
  go_enter Try.func17, Try.ntmps17
  go_wp2_with (at_builtin; refine wpList_append_sl _ rfl _ _ 24 rfl w.heap.size 9 i0 _ 1 16 Try.underlying24 hi hz0 hz1 hz2 rfl (by decide) (.slice none 0 0) 0 [] rfl (unhide O _) ha hlen hcap (ns.map Value.string) rfl nw1 (unhide NL) (unhide NW2) (unhide ONE) (by unfold maxLen; omega) (by omega) (by simp) ?_; intro v5 w5 hown5 hgrow5 _)
  have O1 : Hid (w5.ownsRow w.heap.size 9 1 v5 ns.length (ns.map Value.string)) := hide (by have := hown5; rw [Nat.zero_add, List.nil_append, unhide HDL] at this; exact this)
  have B1 := hide (show Below w.heap.size w w5 from (unhide B).grown hgrow5 (by simp) (fun j hj => by simp [Value.ownBlock] at hj))
  have R1 := hide (row_grownO (unhide R) hgrow5 (by simp [Value.ownBlock]))
  clear hown5 hgrow5 O B R NW2 ONE NL nw1
  go_loopw [5, 6] (fun u i w' => ∃ (k : Nat) (L : List ByteArray), k ≤ L.length ∧ i = .int .i64 k ∧ Hid (w'.ownsRow w.heap.size 9 1 u L.length (L.map Value.string)) ∧ Hid (UnI P U ns L k) ∧ Hid (RowIs w' w.heap.size #[.slice h0.a h0.len h0.cap, .slice h1.a h1.len h1.cap, .slice h2.a h2.len h2.cap] 32) ∧ Hid (Below w.heap.size w w')) (fun _ i _ => 40002 - (Go.RowKit.intOf i).toNat)
  case atStart => exact ⟨0, ns, Nat.zero_le _, rfl, O1, I0, R1, B1⟩
  case round =>
    clear O1 I0 R1 B1
    obtain ⟨k, L, hk, rfl, O, I0, R, B⟩ := hrel
    obtain ⟨au, cu, eu, su⟩ := own_strs (unhide O)
    subst eu
    have lenL : L.length ≤ 40000 := by have h1 := (unhide I0).len; have h2 := unhide HUL; have h3 := unhide HNL; omega
    by_cases hlt : k < L.length
    case neg =>
      have ALL := hide ((unhide I0).all (by omega))
      have q2 := hide (l5Sorted_any au L.length cu L wr (by omega) su ((unhide I0).ok (unhide okn) (unhide oks)))
      clear q1 su
      go_wp2_with fail
      refine (unhide q2).mono ?_
      rintro e w1 ⟨⟨v, rr, rfl, hr, ho⟩, hb⟩
      have HR := hide hr
      have bs := (unhide B).size
      have BN := hide (bTr (unhide B) hb)
      have HO := hide (own_base ho bs)
      clear hr ho hb q2
      go_wp2_with fail
      go_ret
      exact ⟨⟨_, rr, rfl, ⟨(unhide HR).1, fun x => ((unhide HR).2.1 x).trans (unhide ALL x), Nat.le_trans (unhide HR).2.2 lenL⟩, unhide HO⟩, unhide BN⟩
    obtain ⟨b1, off1, e1, row1⟩ := su.at (k := k) hlt
    have c0 := row1.c k hlt
    have zc := row1.z
    have r0 := (unhide R).at (o := 0) (v := .slice h0.a h0.len h0.cap) rfl
    have r1 := (unhide R).at (o := 1) (v := .slice h1.a h1.len h1.cap) rfl
    have r2 := (unhide R).at (o := 2) (v := .slice h2.a h2.len h2.cap) rfl
    have zr := (unhide R).lt
    obtain ⟨ak, hak⟩ : ∃ y, y = L[k] := ⟨_, rfl⟩
    have HAK := hide hak
    rw [← hak] at c0
    have hupk : Hid (UnF P ns ak) := hide (by rw [hak]; exact (unhide I0).un _ (List.getElem_mem hlt))
    have q : Hid (∀ w', Below wr.heap.size wr w' → Calls Try.prog 27 #[.agg #[.slice h0.a h0.len h0.cap, .slice h1.a h1.len h1.cap, .slice h2.a h2.len h2.cap], .string ak] w' fun r w'' => (∃ (x : RoleE) (b : Bool), r = .returned (.tuple #[.agg #[.string x.t.f0, .slice x.h1.a x.h1.len x.h1.cap, .slice x.h2.a x.h2.len x.h2.cap], .bool b]) ∧ rs.find? (fun c => decide (c.t.f0 = ak)) = (if b = true then some x else none) ∧ (b = false → x.h1 = ⟨none, 0, 0⟩ ∧ x.h2 = ⟨none, 0, 0⟩)) ∧ Below w'.heap.size w' w'') := hide (fun w' hb => unhide q1 ak w' (bTr (unhide B) hb))
    clear row1 hak su
    subst e1
    go_wp2_with fail
    go_region_held3 (fun w' => w'.cell? ⟨w.heap.size, 0, none⟩ = some (.slice h0.a h0.len h0.cap) ∧ w'.cell? ⟨w.heap.size, 1, none⟩ = some (.slice h1.a h1.len h1.cap) ∧ w'.cell? ⟨w.heap.size, 2, none⟩ = some (.slice h2.a h2.len h2.cap) ∧ w'.cell? ⟨b1, off1 + k, none⟩ = some (.string ak))
      (first
        | exact ⟨r0, r1, r2, c0⟩
        | exact unhide Y1
        | (refine ⟨cellB (W := wr) ?_ zr r0, cellB (W := wr) ?_ zr r1, cellB (W := wr) ?_ zr r2, cellB (W := wr) ?_ zc c0⟩ <;> (repeat (first | exact Below.refl _ _ | exact unhide HB | refine Below.drew ?_ | refine bAl ?_ _ | refine bSt ?_ (Nat.le_refl _) _ _ | refine bSt ?_ (unhide HB).size _ _))))
      (first
        | (go_at_call 27; refine (unhide q _ (Below.refl _ _).drew).mono ?_; rintro r w1 ⟨⟨x, b, rfl, hf, hx1⟩, hb⟩; replace hb := undrew hb; have HF := hide (And.intro hf hx1); have HB := hide hb; clear hf hx1 hb)
        | (go_at_call 27; refine (unhide q _ (bAl (Below.refl _ _).drew _)).mono ?_; rintro r w1 ⟨⟨x, b, rfl, hf, hx1⟩, hb⟩; have ZR := (show RowIs w1 wr.heap.size #[.string ⟨#[]⟩, .slice none 0 0, .slice none 0 0] 41 from (RowIs.new wr.drew _ _).keep hb); have k0 := ZR.at (o := 0) (v := .string ⟨#[]⟩) rfl; have k1 := ZR.at (o := 1) (v := .slice none 0 0) rfl; have k2 := ZR.at (o := 2) (v := .slice none 0 0) rfl; have g0 := ZR.froz 0; have g1 := ZR.froz 1; have g2 := ZR.froz 2; have HC := hide ZR; clear ZR; replace hb := bTr (bAl (Below.refl wr.heap.size wr).drew _) hb; have HF := hide (And.intro hf hx1); have HB := hide hb; clear hf hx1 hb))
    all_goals (first
      | (have hc := unhide HC
         have RB : Hid (RowIs (((w1.setCell ⟨wr.heap.size, 0, none⟩ (.string x.t.f0)).setCell ⟨wr.heap.size, 1, none⟩ (.slice x.h1.a x.h1.len x.h1.cap)).setCell ⟨wr.heap.size, 2, none⟩ (.slice x.h2.a x.h2.len x.h2.cap)) wr.heap.size #[.string x.t.f0, .slice x.h1.a x.h1.len x.h1.cap, .slice x.h2.a x.h2.len x.h2.cap] 41) := hide (by have h := ((hc.set 0 (.string x.t.f0)).set 1 (.slice x.h1.a x.h1.len x.h1.cap)).set 2 (.slice x.h2.a x.h2.len x.h2.cap); simp only [List.setIfInBounds_toArray, List.set_cons_zero, List.set_cons_succ] at h; exact h)
         have BB : Hid (Below wr.heap.size wr (((w1.setCell ⟨wr.heap.size, 0, none⟩ (.string x.t.f0)).setCell ⟨wr.heap.size, 1, none⟩ (.slice x.h1.a x.h1.len x.h1.cap)).setCell ⟨wr.heap.size, 2, none⟩ (.slice x.h2.a x.h2.len x.h2.cap))) := hide (bSt (bSt (bSt (unhide HB) (Nat.le_refl _) _ _) (Nat.le_refl _) _ _) (Nat.le_refl _) _ _)
         clear k0 k1 k2 g0 g1 g2 HC hc
         iterate 14 (try clear hHeld)
         generalize ((w1.setCell ⟨wr.heap.size, 0, none⟩ (.string x.t.f0)).setCell ⟨wr.heap.size, 1, none⟩ (.slice x.h1.a x.h1.len x.h1.cap)).setCell ⟨wr.heap.size, 2, none⟩ (.slice x.h2.a x.h2.len x.h2.cap) = W2 at RB BB ⊢
         obtain ⟨bx, hbx⟩ : ∃ n, n = wr.heap.size := ⟨_, rfl⟩
         rw [← hbx] at RB ⊢
         have HBX := hide hbx
         clear hbx)
      | (have RB := hide (RowIs.new w1 #[.string x.t.f0, .slice x.h1.a x.h1.len x.h1.cap, .slice x.h2.a x.h2.len x.h2.cap] 41)
         have BB := hide (bAl (unhide HB) (.cells #[.string x.t.f0, .slice x.h1.a x.h1.len x.h1.cap, .slice x.h2.a x.h2.len x.h2.cap] 41))
         iterate 14 (try clear hHeld)
         generalize w1.alloc (.cells #[.string x.t.f0, .slice x.h1.a x.h1.len x.h1.cap, .slice x.h2.a x.h2.len x.h2.cap] 41) = W2 at RB BB ⊢
         obtain ⟨bx, hbx⟩ : ∃ n, n = w1.heap.size := ⟨_, rfl⟩
         rw [← hbx] at RB ⊢
         have HBX := hide hbx
         clear hbx))
    all_goals (
      obtain ⟨⟨xf0, xf1, xf2⟩, ⟨ga, gl, gc⟩, g2⟩ := x
      obtain ⟨hsq, hpu, hp50⟩ := unhide PF ak _ b (unhide HF).1 (unhide HF).2
      have d1 := (unhide RB).at (o := 1) (v := .slice ga gl gc) rfl
      simp only at hsq ⊢
      obtain ⟨ps, hps⟩ : ∃ ps, ps = P ak := ⟨_, rfl⟩
      rw [← hps] at hsq hpu hp50
      have HPS : Hid (P L[k] = ps) := hide (by rw [hps, unhide HAK])
      have PUP : Hid (∀ p ∈ ps, UnF P ns p ∧ p ∈ U) := hide (fun p hp => ⟨.next (unhide hupk) (by rw [← hps]; exact hp), hpu p hp⟩)
      have HSQ := hide hsq
      have HSL : Hid (gl = ps.length) := hide hsq.1
      have LG : gl ≤ 20000 := by have := unhide HSL; omega
      replace O := hide (own_keep (unhide O) (unhide BB))
      replace R := hide ((unhide R).keep (unhide BB))
      have B2 := hide (bTr (unhide B) (unhide BB))
      have J0 : Hid (UnJ P U ns L L k ps 0) := hide ⟨unhide I0, ⟨[], by simp⟩, fun j _ h => absurd h (Nat.not_lt_zero _)⟩
      clear hpu hps hsq q hupk I0 q1 HF HB RB HBX BB B PF
      go_wp2_with fail
      clear d1
      go_loopw [5, 32] (fun u i w' => ∃ (m : Nat) (L' : List ByteArray), m ≤ gl ∧ i = .int .i64 m ∧ Hid (w'.ownsRow w.heap.size 9 1 u L'.length (L'.map Value.string)) ∧ Hid (UnJ P U ns L L' k ps m) ∧ Hid (RowIs w' w.heap.size #[.slice h0.a h0.len h0.cap, .slice h1.a h1.len h1.cap, .slice h2.a h2.len h2.cap] 32) ∧ Hid (Below w.heap.size w w')) (fun _ i _ => gl - (Go.RowKit.intOf i).toNat)
      case atStart => exact ⟨0, L, Nat.zero_le _, rfl, O, J0, R, B2⟩
      case round =>
        clear O J0 R B2
        obtain ⟨m, L', hm, rfl, O, J0, R, B⟩ := hrel
        obtain ⟨av, cv, ev, sv⟩ := own_strs (unhide O)
        subst ev
        by_cases hm2 : m < gl
        case neg =>
          have DN := (unhide J0).done hlt (unhide HPS) (by have := unhide HSL; omega)
          have I1 := hide DN.1
          have l2 := DN.2
          clear DN J0 sv
          go_wp2_with fail
          exact ⟨⟨k + 1, L', by omega, by go_num, O, I1, R, B⟩, by simp [Go.RowKit.intOf]; omega⟩
        have hm' : m < ps.length := by have := unhide HSL; omega
        have lenL' : L'.length ≤ 40000 := by have h1 := (unhide J0).i.len; have h2 := unhide HUL; have h3 := unhide HNL; omega
        obtain ⟨bp, offp, ep, rowp⟩ := ((unhide HSQ).keep (unhide B)).sl.at hm2
        simp only at ep
        have c0 := rowp.c m hm'
        have SK : Hid (ps[m] ∈ L' → UnJ P U ns L L' k ps (m + 1)) := hide (fun h => (unhide J0).skip hm' h)
        have TK : Hid (¬ ps[m] ∈ L' → UnJ P U ns L (L' ++ [ps[m]]) k ps (m + 1)) := hide (fun h => (unhide J0).take hm' h (unhide PUP _ (List.getElem_mem hm')).1 (unhide PUP _ (List.getElem_mem hm')).2 (by
          obtain ⟨X, hX⟩ := (unhide J0).ext
          rw [hX]; simp; omega))
        clear rowp J0
        generalize ps[m] = A at *
        have q3 := hide (l3Has_any av L'.length cv L' A wr (by omega) sv)
        clear sv
        subst ep
        go_wp2_with fail
        refine (unhide q3).mono ?_
        rintro e w4 ⟨⟨v, rfl, hv⟩, rfl⟩
        have HV := hide hv
        clear hv q3 c0
        cases v
        case true =>
          have J1 := hide (unhide SK ((unhide HV).1 rfl))
          clear SK TK HV
          go_wp2_with fail
          exact ⟨⟨m + 1, L', by omega, by go_num, O, J1, R, B⟩, by simp [Go.RowKit.intOf]; omega⟩
        have J1 := hide (unhide TK (fun h => by have := (unhide HV).2 h; cases this))
        have t5 : (L'.length + 1) * 16 ≤ 140737488355328 := by omega
        have Bs := (unhide B).size
        have T4 := hide (show w.heap.size ≤ (wr.alloc (.cells #[.string A] 9)).heap.size by simp; omega)
        have BA : Hid (∀ w5 : World, (wr.alloc (.cells #[.string A] 9)).grownBy w5 (Value.slice av L'.length cv).ownBlock → Below w.heap.size w w5) := hide (fun w5 hgr => (bAl (unhide B) _).grown hgr (by simp; omega) (fun j hj => ((unhide O).lt j hj).1))
        have RA : Hid (∀ w5 : World, (wr.alloc (.cells #[.string A] 9)).grownBy w5 (Value.slice av L'.length cv).ownBlock → RowIs w5 w.heap.size #[.slice h0.a h0.len h0.cap, .slice h1.a h1.len h1.cap, .slice h2.a h2.len h2.cap] 32) := hide (fun w5 hgr => row_grownO ((unhide R).keep (bAl (Below.refl _ _) _)) hgr (fun e => own_not (unhide O) (unhide R) (fun cur h => by simp at h) e.symm))
        clear SK TK HV
        go_wp2_with (at_builtin; refine wpList_append_own_at _ rfl _ _ 24 rfl w.heap.size 9 i0 _ 1 16 Try.underlying24 hi hz0 hz1 hz2 rfl (by decide) (.slice av L'.length cv) _ _ rfl ((unhide O).alloc _) ⟨_, 0, none⟩ 1 1 [.string A] rfl rfl (cell_one_at _ _ rfl _ _) (fun x hx => by simp at hx; subst hx; rfl) (by unfold maxLen; omega) t5 (unhide T4) ?_; intro v5 w5 hown5 hgrow5 _ _)
        have O5 : Hid (w5.ownsRow w.heap.size 9 1 v5 (L' ++ [A]).length ((L' ++ [A]).map Value.string)) := hide (by rw [List.map_append, List.length_append]; exact hown5)
        have B5 := hide (unhide BA w5 hgrow5)
        have R5 := hide (unhide RA w5 hgrow5)
        clear hown5 hgrow5 BA T4 O B R RA
        exact ⟨⟨m + 1, L' ++ [A], by omega, by go_num, O5, J1, R5, B5⟩, by simp [Go.RowKit.intOf]; omega⟩)
end Go.Proofs.Ytfabfgokammmhaa.V
