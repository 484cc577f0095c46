/- OSb, OIc, one behind the other. -/
import Derived.Test.YtfbncneeimikcaaGreatJ22
import Derived.Laws.OwnMore
import Derived.Test.YtfbncneeimikcaaGreatJ21
import Derived.BigQuiet
/- spec.l15Under. -/
namespace Go.Proofs.YtfbncneeimikcaaGreat.V
set_option linter.unusedSimpArgs false
set_option linter.unusedVariables false
open Go.RowKit Go.Maps

theorem sls_both {w : World} {a : Option Addr} {len : Nat} {l : List ByteArray} (h : SlS w a len l) : Go.Proofs.YtfbncneeimikcaaGreat.SlS w a len l := ⟨h.1, h.2.imp id fun ⟨b, off, e, r⟩ => ⟨b, off, e, ⟨r.z, r.c⟩⟩⟩
theorem sls_back {w : World} {a : Option Addr} {len : Nat} {l : List ByteArray} (h : Go.Proofs.YtfbncneeimikcaaGreat.SlS w a len l) : SlS w a len l := ⟨h.1, h.2.imp id fun ⟨b, off, e, r⟩ => ⟨b, off, e, ⟨r.z, r.c⟩⟩⟩
theorem run_append_none_cap {P : Program} {w : World} (base : Nat) (t ty e : TypeId) (i : TypeInfo) (size c : Nat) (ht : P.underlying t = some (.slice e)) (hi : P.info? e = some i)
    (v : Value) (n : Nat) (xs : List Value) (hown : w.ownsRow base e size v n xs) :
    (Builtin.append_ #[t, t] ty #[v, .slice none 0 c]).run P w = .ok v w := by
  rcases hown.2 with ⟨rfl, rfl⟩ | ⟨g, cap, cur, rfl, _, _, hnc, _⟩
  · simp [Builtin.append_, run_underlying ht, sizeOf, typeInfo, hi, Builtin.lenOf, Builtin.firstCells]
  · simp [Builtin.append_, run_underlying ht, sizeOf, typeInfo, hi, Builtin.lenOf, Builtin.firstCells, hnc, storeCells]
/-- append(v, x...), whatever slice x is. -/
theorem wpList_append_sl {P : Program} (w : World) {ops : Array Oper} {rest : List Oper} {o : Oper} {a : Act} {Q : Exit → Act → World → Prop} (hgd : o.guard = none) (s x : Operand) (t : TypeId)
    (ho : o.op = .call { callee := .builtin .append, args := #[s, x], argTypes := #[t, t] })
    (base : Nat) (e : TypeId) (i : TypeInfo) (z : Value) (size bytes : Nat) (ht : P.underlying t = some (.slice e)) (hi : P.info? e = some i) (hz : i.zero = some z)
    (hsize : i.size = size) (hby : i.bytes = bytes) (hzs : z.cells.size = size) (hsz : 0 < size)
    (v : Value) (n : Nat) (xs : List Value) (hs : a.eval s = v) (hown : w.ownsRow base e size v n xs)
    (ao : Option Addr) (m c : Nat) (news : List Value) (hx : a.eval x = .slice ao m c) (hao : ao = none → m = 0) (hl : news.length = m * size) (hnews : ∀ ad, ao = some ad → ∀ j u, news[j]? = some u → w.cell? (ad.add j) = some u) (h1 : ∀ u ∈ news, u.oneCell' = true)
    (h63 : n + m ≤ maxLen) (hbytes : (n + m) * bytes ≤ 140737488355328) (hbase : base ≤ w.heap.size)
    (h : ∀ v' w', w'.ownsRow base e size v' (n + m) (xs ++ news) → w.grownBy w' v.ownBlock → (v'.ownBlock = v.ownBlock ∨ v'.ownBlock = some w.heap.size) → wpList P ops Q rest (a.put o.dst v') w') :
    wpList P ops Q (o :: rest) a w := by
  cases ao with
  | some ad => exact wpList_append_own_at w hgd s x t ho base e i z size bytes ht hi hz hsize hby hzs hsz v n xs hs hown ad m c news hx hl (hnews ad rfl) h1 h63 hbytes hbase fun v' w' h2 h3 _ h5 => h v' w' h2 h3 h5
  | none =>
    obtain rfl := hao rfl
    have hn : news = [] := List.eq_nil_of_length_eq_zero (by simpa using hl)
    subst hn
    have hr := run_append_none_cap (P := P) (w := w) base t o.type e i size c ht hi v n xs hown
    have h2 : w.ownsRow base e size v (n + 0) (xs ++ []) := by simpa using hown
    have := h v w h2 ⟨rfl, rfl, rfl, Nat.le_refl _, fun _ _ _ => rfl⟩ (.inl rfl)
    refine wpList_plain hgd fun K hK => ?_
    unfold Oper.wp execOp
    simp only [ho, resolve, invoke, builtin, Sem.run_bind, Sem.run_pure, Result.andThen_ok, List.map_toArray, List.map_cons, List.map_nil, hs, hx, hr]
    exact hK _ _ this
theorem sls_news {w : World} {h : Hd} {l : List ByteArray} (s : SqS w 0 h l) : (h.a = none → h.len = 0) ∧ ∀ ad, h.a = some ad → ∀ j u, (l.map Value.string)[j]? = some u → w.cell? (ad.add j) = some u := by
  refine ⟨fun e => ?_, fun ad e j u hj => ?_⟩
  · rcases s.2 with h0 | ⟨b, off, e1, _⟩
    · rw [s.1, h0]; rfl
    · rw [e] at e1; cases e1
  · rcases s.2 with h0 | ⟨b, off, e1, _, r⟩
    · subst h0; simp at hj
    · rw [e] at e1
      cases e1
      rw [List.getElem?_map] at hj
      cases hl : l[j]? with
      | none => rw [hl] at hj; cases hj
      | some x =>
        rw [hl] at hj
        obtain ⟨hlt, rfl⟩ := List.getElem?_eq_some_iff.1 hl
        have := r.c j hlt
        cases hj
        by_cases h0 : j = 0
        · subst h0; simpa [Addr.add] using this
        · simpa [Addr.add, h0] using this

/-- Going under, a list that grows: those ahead of k are done. -/
structure UnI (P : ByteArray → List ByteArray) (U ns L : List ByteArray) (k : Nat) : Prop where
  pre : ∃ X, L = ns ++ X ∧ X.Nodup ∧ ∀ x ∈ X, x ∈ U
  un : ∀ x ∈ L, UnF P ns x
  cl : ∀ i (h : i < L.length), i < k → ∀ p ∈ P L[i], p ∈ L
open Classical in
theorem UnI.len {P : ByteArray → List ByteArray} {U ns L : List ByteArray} {k : Nat} (h : UnI P U ns L k) : L.length ≤ ns.length + U.length := by
  obtain ⟨X, rfl, h1, h2⟩ := h.pre
  have := nodup_le X U h1 h2
  rw [List.length_append]; omega
theorem UnI.ok {P : ByteArray → List ByteArray} {U ns L : List ByteArray} {k : Nat} (h : UnI P U ns L k) {Q : ByteArray → Prop} (h1 : ∀ x ∈ ns, Q x) (h2 : ∀ x ∈ U, Q x) : ∀ x ∈ L, Q x := by
  obtain ⟨X, rfl, _, h3⟩ := h.pre
  intro x hx
  rcases List.mem_append.1 hx with e | e
  · exact h1 x e
  · exact h2 x (h3 x e)
theorem UnI.all {P : ByteArray → List ByteArray} {U ns L : List ByteArray} {k : Nat} (h : UnI P U ns L k) (hk : L.length ≤ k) (x : ByteArray) : x ∈ L ↔ UnF P ns x :=
  ⟨h.un x, fun hx => by
    induction hx with
    | base hb => obtain ⟨X, rfl, _⟩ := h.pre; exact List.mem_append_left _ hb
    | next _ hy ih =>
      obtain ⟨i, hi, rfl⟩ := List.getElem_of_mem ih
      exact h.cl i hi (by omega) _ hy⟩
/-- Within: of what stands under the k-th the first m are there. -/
structure UnJ (P : ByteArray → List ByteArray) (U ns L0 L : List ByteArray) (k : Nat) (ps : List ByteArray) (m : Nat) : Prop where
  i : UnI P U ns L k
  ext : ∃ X, L = L0 ++ X
  ps : ∀ j (h : j < ps.length), j < m → ps[j] ∈ L
theorem UnJ.skip {P : ByteArray → List ByteArray} {U ns L0 L : List ByteArray} {k : Nat} {ps : List ByteArray} {m : Nat} (h : UnJ P U ns L0 L k ps m) (hm : m < ps.length) (hin : ps[m] ∈ L) : UnJ P U ns L0 L k ps (m + 1) :=
  ⟨h.i, h.ext, fun j hj hjm => by
    rcases Nat.lt_or_ge j m with h2 | h2
    · exact h.ps j hj h2
    · obtain rfl : j = m := by omega
      exact hin⟩
theorem UnJ.take {P : ByteArray → List ByteArray} {U ns L0 L : List ByteArray} {k : Nat} {ps : List ByteArray} {m : Nat} (h : UnJ P U ns L0 L k ps m) (hm : m < ps.length) (hin : ¬ ps[m] ∈ L) (hup : UnF P ns ps[m]) (hU : ps[m] ∈ U) (hk : k ≤ L.length) : UnJ P U ns L0 (L ++ [ps[m]]) k ps (m + 1) := by
  refine ⟨⟨?_, fun x hx => ?_, fun i hi hik p hp => ?_⟩, ?_, fun j hj hjm => ?_⟩
  · obtain ⟨X, rfl, h1, h2⟩ := h.i.pre
    refine ⟨X ++ [ps[m]], by rw [List.append_assoc], ?_, fun x hx => ?_⟩
    · rw [List.nodup_append]
      exact ⟨h1, List.nodup_cons.2 ⟨by simp, List.nodup_nil⟩, fun x hx y hy e => by simp at hy; subst hy; exact hin (List.mem_append_right _ (e ▸ hx))⟩
    · rcases List.mem_append.1 hx with hx | hx
      · exact h2 x hx
      · simp at hx; rw [hx]; exact hU
  · rcases List.mem_append.1 hx with hx | hx
    · exact h.i.un x hx
    · simp at hx; rw [hx]; exact hup
  · have hi' : i < L.length := by omega
    rw [List.getElem_append_left hi'] at hp
    exact List.mem_append_left _ (h.i.cl i hi' hik p hp)
  · obtain ⟨X, rfl⟩ := h.ext
    exact ⟨X ++ [ps[m]], by rw [List.append_assoc]⟩
  · rcases Nat.lt_or_ge j m with h2 | h2
    · exact List.mem_append_left _ (h.ps j hj h2)
    · obtain rfl : j = m := by omega
      exact List.mem_append_right _ (by simp)
theorem UnJ.done {P : ByteArray → List ByteArray} {U ns L0 L : List ByteArray} {k : Nat} {ps : List ByteArray} {m : Nat} (h : UnJ P U ns L0 L k ps m) (hk : k < L0.length) (hp : P L0[k] = ps) (hm : ps.length ≤ m) : UnI P U ns L (k + 1) ∧ L0.length ≤ L.length := by
  obtain ⟨X, rfl⟩ := h.ext
  refine ⟨⟨h.i.pre, h.i.un, fun i hi hik p hpp => ?_⟩, by simp⟩
  rcases Nat.lt_or_ge i k with h2 | h2
  · exact h.i.cl i hi h2 p hpp
  · obtain rfl : i = k := by omega
    rw [List.getElem_append_left hk, hp] at hpp
    obtain ⟨j, hj, rfl⟩ := List.getElem_of_mem hpp
    exact h.ps j hj (by omega)
theorem row_grownO {w w' : World} {b : Nat} {C : Array Value} {T : TypeId} {row : Option Nat} (h : RowIs w b C T) (hg : w.grownBy w' row) (hne : some b ≠ row) : RowIs w' b C T := by
  have hl := h.lt
  unfold RowIs at *; rw [hg.block b hl hne]; exact h
/-- All that stands under something. -/
def allU (rs : List RoleE) : List ByteArray := rs.flatMap fun e => e.t.f1
theorem allU_len {rs : List RoleE} {e : RoleE} (he : e ∈ rs) : e.t.f1.length ≤ (allU rs).length := by
  induction rs with
  | nil => cases he
  | cons x rs ih =>
    unfold allU
    rw [List.flatMap_cons, List.length_append]
    rcases List.mem_cons.1 he with rfl | h
    · omega
    · have := ih h; unfold allU at this; omega
set_option maxRecDepth 20000 in
set_option maxHeartbeats 8000000 in
theorem l15Under_n (h0 h1 h2 : Hd) (rs : List RoleE) (hd : Hd) (ns : List ByteArray) (w : World) (hl : rs.length ≤ maxLen) (hs : SqRoleE w 0 h0 rs) (hn : ∀ e ∈ rs, RoleN e.t) (hU : (allU rs).length ≤ 20000) (sl : SqS w 0 hd ns) (hnl : ns.length ≤ 20000) (hno : ∀ x ∈ ns, ByteArray.size x ≤ maxLen) :
    Calls Tryz.prog 55 #[.agg #[.slice h0.a h0.len h0.cap, .slice h1.a h1.len h1.cap, .slice h2.a h2.len h2.cap], .slice hd.a hd.len hd.cap] w fun r w' => (∃ v rr, r = .returned v ∧ (RisS rr ∧ (∀ x, x ∈ rr ↔ UnF (undR (rs.map (·.t))) ns x) ∧ rr.length ≤ 40000) ∧ w'.ownsRow w.heap.size 9 1 v rr.length (rr.map Value.string)) ∧ Below w.heap.size w w' := by
  have oks : Hid (∀ x ∈ allU rs, ByteArray.size x ≤ maxLen) := hide (fun x hx => by
    obtain ⟨e, he, hx⟩ := List.mem_flatMap.1 hx
    exact (hn e he).o1 x hx)
  have okn := hide hno
  obtain ⟨P, hP⟩ : ∃ P, P = undR (rs.map (·.t)) := ⟨_, rfl⟩
  rw [← hP]
  have PF : Hid (∀ x (e : RoleE) (b : Bool), rs.find? (fun c => decide (c.t.f0 = x)) = (if b = true then some e else none) → (b = false → e.h1 = ⟨none, 0, 0⟩ ∧ e.h2 = ⟨none, 0, 0⟩) → SqS w 0 e.h1 (P x) ∧ (∀ p ∈ P x, p ∈ allU rs) ∧ (P x).length ≤ 20000) := hide (fun x e b hf hb => by
    rw [hP]
    unfold undR fstR
    rw [List.find?_map]
    have h0 : rs.find? ((fun t : RoleT => decide (t.f0 = x)) ∘ (fun e : RoleE => e.t)) = (if b = true then some e else none) := hf
    rw [h0]
    cases b
    · rw [(hb rfl).1]
      show SqS w 0 ⟨none, 0, 0⟩ ([] : List ByteArray) ∧ (∀ p ∈ ([] : List ByteArray), p ∈ allU rs) ∧ ([] : List ByteArray).length ≤ 20000
      exact ⟨⟨rfl, .inl rfl⟩, fun p hp => (by cases hp), Nat.zero_le _⟩
    · have he := List.mem_of_find?_eq_some hf
      exact ⟨(hs.2.2 e he).m1, fun p hp => List.mem_flatMap.2 ⟨e, he, hp⟩, Nat.le_trans (allU_len he) hU⟩)
  have q1 := hide (fun (x : ByteArray) (w' : World) (hb : Below w.heap.size w w') => l15Role_n h0 h1 h2 rs x w' hl (hs.keep hb))
  obtain ⟨U, hUU⟩ : ∃ U, U = allU rs := ⟨_, rfl⟩
  rw [← hUU] at hU oks PF
  obtain ⟨i0, hi, hz0, hz1, hz2⟩ := info_parts info_str
  obtain ⟨nw1, nw2⟩ := sls_news (sl.keep (bAl (Below.refl w.heap.size w) (.cells #[.slice h0.a h0.len h0.cap, .slice h1.a h1.len h1.cap, .slice h2.a h2.len h2.cap] 38)))
  have NW2 := hide nw2
  have HDL := hide sl.1
  obtain ⟨ha, hlen, hcap⟩ := hd
  simp only at NW2 HDL nw1
  have LD : hlen ≤ 20000 := by have := unhide HDL; omega
  have NL : Hid ((ns.map Value.string).length = hlen * 1) := hide (by have := unhide HDL; simp; omega)
  have O : Hid (∀ w', World.ownsRow w' w.heap.size 9 1 (.slice none 0 0) 0 []) := hide (fun w' => World.ownsRow_nil _ _ _ _)
  have ONE : Hid (∀ u ∈ ns.map Value.string, u.oneCell' = true) := hide (fun u hu => by obtain ⟨x, _, rfl⟩ := List.mem_map.1 hu; rfl)
  have R := hide (RowIs.new w #[.slice h0.a h0.len h0.cap, .slice h1.a h1.len h1.cap, .slice h2.a h2.len h2.cap] 38)
  have B := hide (bAl (Below.refl w.heap.size w) (.cells #[.slice h0.a h0.len h0.cap, .slice h1.a h1.len h1.cap, .slice h2.a h2.len h2.cap] 38))
  have I0 : Hid (UnI P U ns ns 0) := hide ⟨⟨[], by simp, List.nodup_nil, fun x hx => (by cases hx)⟩, fun x hx => .base hx, fun i _ h => absurd h (Nat.not_lt_zero _)⟩
  have HUL := hide hU
  have HNL := hide hnl
  clear hn hl hs hP hU hUU sl nw2 hno hnl
  go_enter Tryz.func55, Tryz.ntmps55
  go_wp2_with (at_builtin; refine wpList_append_sl _ rfl _ _ 24 rfl w.heap.size 9 i0 _ 1 16 Tryz.underlying24 hi hz0 hz1 hz2 rfl (by decide) (.slice none 0 0) 0 [] rfl (unhide O _) ha hlen hcap (ns.map Value.string) rfl nw1 (unhide NL) (unhide NW2) (unhide ONE) (by unfold maxLen; omega) (by omega) (by simp) ?_; intro v5 w5 hown5 hgrow5 _)
  have O1 : Hid (w5.ownsRow w.heap.size 9 1 v5 ns.length (ns.map Value.string)) := hide (by have := hown5; rw [Nat.zero_add, List.nil_append, unhide HDL] at this; exact this)
  have B1 := hide (show Below w.heap.size w w5 from (unhide B).grown hgrow5 (by simp) (fun j hj => by simp [Value.ownBlock] at hj))
  have R1 := hide (row_grownO (unhide R) hgrow5 (by simp [Value.ownBlock]))
  clear hown5 hgrow5 O B R NW2 ONE NL nw1
  go_loopw [5, 6] (fun u i w' => ∃ (k : Nat) (L : List ByteArray), k ≤ L.length ∧ i = .int .i64 k ∧ Hid (w'.ownsRow w.heap.size 9 1 u L.length (L.map Value.string)) ∧ Hid (UnI P U ns L k) ∧ Hid (RowIs w' w.heap.size #[.slice h0.a h0.len h0.cap, .slice h1.a h1.len h1.cap, .slice h2.a h2.len h2.cap] 38) ∧ Hid (Below w.heap.size w w')) (fun _ i _ => 40002 - (Go.RowKit.intOf i).toNat)
  case atStart => exact ⟨0, ns, Nat.zero_le _, rfl, O1, I0, R1, B1⟩
  case round =>
    clear O1 I0 R1 B1
    obtain ⟨k, L, hk, rfl, O, I0, R, B⟩ := hrel
    obtain ⟨au, cu, eu, su⟩ := own_strs (unhide O)
    subst eu
    have lenL : L.length ≤ 40000 := by have h1 := (unhide I0).len; have h2 := unhide HUL; have h3 := unhide HNL; omega
    by_cases hlt : k < L.length
    case neg =>
      have ALL := hide ((unhide I0).all (by omega))
      have q2 := hide (l5Sorted_any au L.length cu L wr (by omega) su ((unhide I0).ok (unhide okn) (unhide oks)))
      clear q1 su
      go_wp2_with fail
      refine (unhide q2).mono ?_
      rintro e w1 ⟨⟨v, rr, rfl, hr, ho⟩, hb⟩
      have HR := hide hr
      have bs := (unhide B).size
      have BN := hide (bTr (unhide B) hb)
      have HO := hide (own_base ho bs)
      clear hr ho hb q2
      go_wp2_with fail
      go_ret
      exact ⟨⟨_, rr, rfl, ⟨(unhide HR).1, fun x => ((unhide HR).2.1 x).trans (unhide ALL x), Nat.le_trans (unhide HR).2.2 lenL⟩, unhide HO⟩, unhide BN⟩
    obtain ⟨b1, off1, e1, row1⟩ := su.at (k := k) hlt
    have c0 := row1.c k hlt
    have zc := row1.z
    have r0 := (unhide R).at (o := 0) (v := .slice h0.a h0.len h0.cap) rfl
    have r1 := (unhide R).at (o := 1) (v := .slice h1.a h1.len h1.cap) rfl
    have r2 := (unhide R).at (o := 2) (v := .slice h2.a h2.len h2.cap) rfl
    have zr := (unhide R).lt
    obtain ⟨ak, hak⟩ : ∃ y, y = L[k] := ⟨_, rfl⟩
    have HAK := hide hak
    rw [← hak] at c0
    have hupk : Hid (UnF P ns ak) := hide (by rw [hak]; exact (unhide I0).un _ (List.getElem_mem hlt))
    have q : Hid (∀ w', Below wr.heap.size wr w' → Calls Tryz.prog 56 #[.agg #[.slice h0.a h0.len h0.cap, .slice h1.a h1.len h1.cap, .slice h2.a h2.len h2.cap], .string ak] w' fun r w'' => (∃ (x : RoleE) (b : Bool), r = .returned (.tuple #[.agg #[.string x.t.f0, .slice x.h1.a x.h1.len x.h1.cap, .slice x.h2.a x.h2.len x.h2.cap], .bool b]) ∧ rs.find? (fun c => decide (c.t.f0 = ak)) = (if b = true then some x else none) ∧ (b = false → x.h1 = ⟨none, 0, 0⟩ ∧ x.h2 = ⟨none, 0, 0⟩)) ∧ Below w'.heap.size w' w'') := hide (fun w' hb => unhide q1 ak w' (bTr (unhide B) hb))
    clear row1 hak su
    subst e1
    go_wp2_with fail
    go_region_held3 (fun w' => w'.cell? ⟨w.heap.size, 0, none⟩ = some (.slice h0.a h0.len h0.cap) ∧ w'.cell? ⟨w.heap.size, 1, none⟩ = some (.slice h1.a h1.len h1.cap) ∧ w'.cell? ⟨w.heap.size, 2, none⟩ = some (.slice h2.a h2.len h2.cap) ∧ w'.cell? ⟨b1, off1 + k, none⟩ = some (.string ak))
      (first
        | exact ⟨r0, r1, r2, c0⟩
        | exact unhide Y1
        | (refine ⟨cellB (W := wr) ?_ zr r0, cellB (W := wr) ?_ zr r1, cellB (W := wr) ?_ zr r2, cellB (W := wr) ?_ zc c0⟩ <;> (repeat (first | exact Below.refl _ _ | exact unhide HB | refine Below.drew ?_ | refine bAl ?_ _ | refine bSt ?_ (Nat.le_refl _) _ _ | refine bSt ?_ (unhide HB).size _ _))))
      (first
        | (go_at_call 56; refine (unhide q _ (Below.refl _ _).drew).mono ?_; rintro r w1 ⟨⟨x, b, rfl, hf, hx1⟩, hb⟩; replace hb := undrew hb; have HF := hide (And.intro hf hx1); have HB := hide hb; clear hf hx1 hb)
        | (go_at_call 56; refine (unhide q _ (bAl (Below.refl _ _).drew _)).mono ?_; rintro r w1 ⟨⟨x, b, rfl, hf, hx1⟩, hb⟩; have ZR := (show RowIs w1 wr.heap.size #[.string ⟨#[]⟩, .slice none 0 0, .slice none 0 0] 103 from (RowIs.new wr.drew _ _).keep hb); have k0 := ZR.at (o := 0) (v := .string ⟨#[]⟩) rfl; have k1 := ZR.at (o := 1) (v := .slice none 0 0) rfl; have k2 := ZR.at (o := 2) (v := .slice none 0 0) rfl; have g0 := ZR.froz 0; have g1 := ZR.froz 1; have g2 := ZR.froz 2; have HC := hide ZR; clear ZR; replace hb := bTr (bAl (Below.refl wr.heap.size wr).drew _) hb; have HF := hide (And.intro hf hx1); have HB := hide hb; clear hf hx1 hb))
    all_goals (first
      | (have hc := unhide HC
         have RB : Hid (RowIs (((w1.setCell ⟨wr.heap.size, 0, none⟩ (.string x.t.f0)).setCell ⟨wr.heap.size, 1, none⟩ (.slice x.h1.a x.h1.len x.h1.cap)).setCell ⟨wr.heap.size, 2, none⟩ (.slice x.h2.a x.h2.len x.h2.cap)) wr.heap.size #[.string x.t.f0, .slice x.h1.a x.h1.len x.h1.cap, .slice x.h2.a x.h2.len x.h2.cap] 103) := hide (by have h := ((hc.set 0 (.string x.t.f0)).set 1 (.slice x.h1.a x.h1.len x.h1.cap)).set 2 (.slice x.h2.a x.h2.len x.h2.cap); simp only [List.setIfInBounds_toArray, List.set_cons_zero, List.set_cons_succ] at h; exact h)
         have BB : Hid (Below wr.heap.size wr (((w1.setCell ⟨wr.heap.size, 0, none⟩ (.string x.t.f0)).setCell ⟨wr.heap.size, 1, none⟩ (.slice x.h1.a x.h1.len x.h1.cap)).setCell ⟨wr.heap.size, 2, none⟩ (.slice x.h2.a x.h2.len x.h2.cap))) := hide (bSt (bSt (bSt (unhide HB) (Nat.le_refl _) _ _) (Nat.le_refl _) _ _) (Nat.le_refl _) _ _)
         clear k0 k1 k2 g0 g1 g2 HC hc
         iterate 14 (try clear hHeld)
         generalize ((w1.setCell ⟨wr.heap.size, 0, none⟩ (.string x.t.f0)).setCell ⟨wr.heap.size, 1, none⟩ (.slice x.h1.a x.h1.len x.h1.cap)).setCell ⟨wr.heap.size, 2, none⟩ (.slice x.h2.a x.h2.len x.h2.cap) = W2 at RB BB ⊢
         obtain ⟨bx, hbx⟩ : ∃ n, n = wr.heap.size := ⟨_, rfl⟩
         rw [← hbx] at RB ⊢
         have HBX := hide hbx
         clear hbx)
      | (have RB := hide (RowIs.new w1 #[.string x.t.f0, .slice x.h1.a x.h1.len x.h1.cap, .slice x.h2.a x.h2.len x.h2.cap] 103)
         have BB := hide (bAl (unhide HB) (.cells #[.string x.t.f0, .slice x.h1.a x.h1.len x.h1.cap, .slice x.h2.a x.h2.len x.h2.cap] 103))
         iterate 14 (try clear hHeld)
         generalize w1.alloc (.cells #[.string x.t.f0, .slice x.h1.a x.h1.len x.h1.cap, .slice x.h2.a x.h2.len x.h2.cap] 103) = W2 at RB BB ⊢
         obtain ⟨bx, hbx⟩ : ∃ n, n = w1.heap.size := ⟨_, rfl⟩
         rw [← hbx] at RB ⊢
         have HBX := hide hbx
         clear hbx))
    all_goals (
      obtain ⟨⟨xf0, xf1, xf2⟩, ⟨ga, gl, gc⟩, g2⟩ := x
      obtain ⟨hsq, hpu, hp50⟩ := unhide PF ak _ b (unhide HF).1 (unhide HF).2
      have d1 := (unhide RB).at (o := 1) (v := .slice ga gl gc) rfl
      simp only at hsq ⊢
      obtain ⟨ps, hps⟩ : ∃ ps, ps = P ak := ⟨_, rfl⟩
      rw [← hps] at hsq hpu hp50
      have HPS : Hid (P L[k] = ps) := hide (by rw [hps, unhide HAK])
      have PUP : Hid (∀ p ∈ ps, UnF P ns p ∧ p ∈ U) := hide (fun p hp => ⟨.next (unhide hupk) (by rw [← hps]; exact hp), hpu p hp⟩)
      have HSQ := hide hsq
      have HSL : Hid (gl = ps.length) := hide hsq.1
      have LG : gl ≤ 20000 := by have := unhide HSL; omega
      replace O := hide (own_keep (unhide O) (unhide BB))
      replace R := hide ((unhide R).keep (unhide BB))
      have B2 := hide (bTr (unhide B) (unhide BB))
      have J0 : Hid (UnJ P U ns L L k ps 0) := hide ⟨unhide I0, ⟨[], by simp⟩, fun j _ h => absurd h (Nat.not_lt_zero _)⟩
      clear hpu hps hsq q hupk I0 q1 HF HB RB HBX BB B PF
      go_wp2_with fail
      clear d1
      go_loopw [5, 32] (fun u i w' => ∃ (m : Nat) (L' : List ByteArray), m ≤ gl ∧ i = .int .i64 m ∧ Hid (w'.ownsRow w.heap.size 9 1 u L'.length (L'.map Value.string)) ∧ Hid (UnJ P U ns L L' k ps m) ∧ Hid (RowIs w' w.heap.size #[.slice h0.a h0.len h0.cap, .slice h1.a h1.len h1.cap, .slice h2.a h2.len h2.cap] 38) ∧ Hid (Below w.heap.size w w')) (fun _ i _ => gl - (Go.RowKit.intOf i).toNat)
      case atStart => exact ⟨0, L, Nat.zero_le _, rfl, O, J0, R, B2⟩
      case round =>
        clear O J0 R B2
        obtain ⟨m, L', hm, rfl, O, J0, R, B⟩ := hrel
        obtain ⟨av, cv, ev, sv⟩ := own_strs (unhide O)
        subst ev
        by_cases hm2 : m < gl
        case neg =>
          have DN := (unhide J0).done hlt (unhide HPS) (by have := unhide HSL; omega)
          have I1 := hide DN.1
          have l2 := DN.2
          clear DN J0 sv
          go_wp2_with fail
          exact ⟨⟨k + 1, L', by omega, by go_num, O, I1, R, B⟩, by simp [Go.RowKit.intOf]; omega⟩
        have hm' : m < ps.length := by have := unhide HSL; omega
        have lenL' : L'.length ≤ 40000 := by have h1 := (unhide J0).i.len; have h2 := unhide HUL; have h3 := unhide HNL; omega
        obtain ⟨bp, offp, ep, rowp⟩ := ((unhide HSQ).keep (unhide B)).sl.at hm2
        simp only at ep
        have c0 := rowp.c m hm'
        have SK : Hid (ps[m] ∈ L' → UnJ P U ns L L' k ps (m + 1)) := hide (fun h => (unhide J0).skip hm' h)
        have TK : Hid (¬ ps[m] ∈ L' → UnJ P U ns L (L' ++ [ps[m]]) k ps (m + 1)) := hide (fun h => (unhide J0).take hm' h (unhide PUP _ (List.getElem_mem hm')).1 (unhide PUP _ (List.getElem_mem hm')).2 (by
          obtain ⟨X, hX⟩ := (unhide J0).ext
          rw [hX]; simp; omega))
        clear rowp J0
        generalize ps[m] = A at *
        have q3 := hide (l3Has_any av L'.length cv L' A wr (by omega) sv)
        clear sv
        subst ep
        go_wp2_with fail
        refine (unhide q3).mono ?_
        rintro e w4 ⟨⟨v, rfl, hv⟩, rfl⟩
        have HV := hide hv
        clear hv q3 c0
        cases v
        case true =>
          have J1 := hide (unhide SK ((unhide HV).1 rfl))
          clear SK TK HV
          go_wp2_with fail
          exact ⟨⟨m + 1, L', by omega, by go_num, O, J1, R, B⟩, by simp [Go.RowKit.intOf]; omega⟩
        have J1 := hide (unhide TK (fun h => by have := (unhide HV).2 h; cases this))
        have t5 : (L'.length + 1) * 16 ≤ 140737488355328 := by omega
        have Bs := (unhide B).size
        have T4 := hide (show w.heap.size ≤ (wr.alloc (.cells #[.string A] 9)).heap.size by simp; omega)
        have BA : Hid (∀ w5 : World, (wr.alloc (.cells #[.string A] 9)).grownBy w5 (Value.slice av L'.length cv).ownBlock → Below w.heap.size w w5) := hide (fun w5 hgr => (bAl (unhide B) _).grown hgr (by simp; omega) (fun j hj => ((unhide O).lt j hj).1))
        have RA : Hid (∀ w5 : World, (wr.alloc (.cells #[.string A] 9)).grownBy w5 (Value.slice av L'.length cv).ownBlock → RowIs w5 w.heap.size #[.slice h0.a h0.len h0.cap, .slice h1.a h1.len h1.cap, .slice h2.a h2.len h2.cap] 38) := hide (fun w5 hgr => row_grownO ((unhide R).keep (bAl (Below.refl _ _) _)) hgr (fun e => own_not (unhide O) (unhide R) (fun cur h => by simp at h) e.symm))
        clear SK TK HV
        go_wp2_with (at_builtin; refine wpList_append_own_at _ rfl _ _ 24 rfl w.heap.size 9 i0 _ 1 16 Tryz.underlying24 hi hz0 hz1 hz2 rfl (by decide) (.slice av L'.length cv) _ _ rfl ((unhide O).alloc _) ⟨_, 0, none⟩ 1 1 [.string A] rfl rfl (cell_one_at _ _ rfl _ _) (fun x hx => by simp at hx; subst hx; rfl) (by unfold maxLen; omega) t5 (unhide T4) ?_; intro v5 w5 hown5 hgrow5 _ _)
        have O5 : Hid (w5.ownsRow w.heap.size 9 1 v5 (L' ++ [A]).length ((L' ++ [A]).map Value.string)) := hide (by rw [List.map_append, List.length_append]; exact hown5)
        have B5 := hide (unhide BA w5 hgrow5)
        have R5 := hide (unhide RA w5 hgrow5)
        clear hown5 hgrow5 BA T4 O B R RA
        exact ⟨⟨m + 1, L' ++ [A], by omega, by go_num, O5, J1, R5, B5⟩, by simp [Go.RowKit.intOf]; omega⟩)
end Go.Proofs.YtfbncneeimikcaaGreat.V
/- impl.roleIndex: learnJuniors. -/
namespace Go.Proofs.YtfbncneeimikcaaGreat.V
set_option linter.unusedSimpArgs false
set_option linter.unusedVariables false
open Go.RowKit Go.Maps

/-- x is a role or comes under it. -/
def jmem (rs : List RoleT) (s x : ByteArray) : Prop := x = s ∨ Rch rs s x
/-- The edges of the first k roles, and of the k-th the first m. -/
def edK (rs : List RoleE) (k m : Nat) (p : ByteArray × ByteArray) : Prop := (∃ i, ∃ h : i < rs.length, i < k ∧ rs[i].t.f0 = p.1 ∧ p.2 ∈ rs[i].t.f1) ∨ (∃ h : k < rs.length, rs[k].t.f0 = p.1 ∧ ∃ j, ∃ h' : j < rs[k].t.f1.length, j < m ∧ rs[k].t.f1[j] = p.2)
theorem edK_zero (rs : List RoleE) (p : ByteArray × ByteArray) : ¬ edK rs 0 0 p := by
  rintro (⟨i, _, h, _⟩ | ⟨_, _, j, _, h, _⟩)
  · omega
  · omega
theorem edK_next {rs : List RoleE} {k m : Nat} (hk : k < rs.length) (hm : m = rs[k].t.f1.length) (p : ByteArray × ByteArray) : edK rs (k + 1) 0 p ↔ edK rs k m p := by
  constructor
  · rintro (⟨i, hi, h1, h2, h3⟩ | ⟨_, _, j, _, h, _⟩)
    · by_cases e : i = k
      · subst e
        obtain ⟨j, hj, e⟩ := List.getElem_of_mem h3
        exact .inr ⟨hi, h2, j, hj, by omega, e⟩
      · exact .inl ⟨i, hi, by omega, h2, h3⟩
    · omega
  · rintro (⟨i, hi, h1, h2⟩ | ⟨h1, h2, j, hj, h3, h4⟩)
    · exact .inl ⟨i, hi, by omega, h2⟩
    · exact .inl ⟨k, hk, by omega, h2, by rw [← h4]; exact List.getElem_mem hj⟩
theorem edK_one {rs : List RoleE} {k m : Nat} (hk : k < rs.length) (hm : m < rs[k].t.f1.length) (p : ByteArray × ByteArray) : edK rs k (m + 1) p ↔ p = (rs[k].t.f0, rs[k].t.f1[m]) ∨ edK rs k m p := by
  constructor
  · rintro (h | ⟨h1, h2, j, hj, h3, h4⟩)
    · exact .inr (.inl h)
    · by_cases e : j = m
      · subst e; exact .inl (Prod.ext h2.symm h4.symm)
      · exact .inr (.inr ⟨h1, h2, j, hj, by omega, h4⟩)
  · rintro (rfl | h | ⟨h1, h2, j, hj, h3, h4⟩)
    · exact .inr ⟨hk, rfl, m, hm, by omega, rfl⟩
    · exact .inl h
    · exact .inr ⟨h1, h2, j, hj, by omega, h4⟩
theorem edK_all (rs : List RoleE) (x y : ByteArray) : edK rs rs.length 0 (x, y) ↔ Edg (rs.map (·.t)) x y := by
  constructor
  · rintro (⟨i, hi, _, h2, h3⟩ | ⟨h, _⟩)
    · exact ⟨rs[i].t, List.mem_map_of_mem (List.getElem_mem hi), h2, h3⟩
    · omega
  · rintro ⟨r, hr, h1, h2⟩
    obtain ⟨e, he, rfl⟩ := List.mem_map.1 hr
    obtain ⟨i, hi, rfl⟩ := List.getElem_of_mem he
    exact .inl ⟨i, hi, hi, h1, h2⟩
theorem GM.rowK {w w' : World} {lo bg n : Nat} {es : List (Bs × Bs)} {tab : Bs → Option Nat} {row : Option Nat} (h : GM w lo bg n es tab) (hg : w.grownBy w' row) (hr : ∀ r, row = some r → r < lo ∨ w.heap.size ≤ r) : GM w' lo bg n es tab := by
  have aux : ∀ (b : Nat) (m : Bs → Option Value), lo ≤ b → KM Tryz.prog 9 Value.string w b n m → KM Tryz.prog 9 Value.string w' b n m := fun b m hb hm => hm.kept hg (fun e => by
    have := hm.lt
    rcases hr b e.symm with h | h <;> omega)
  exact ⟨h.base, aux _ _ h.base h.top, fun a b e => aux _ _ (h.ge a b e).1 (h.kid a b e), h.inj, h.ge, h.has, h.ok⟩
theorem GM.rowB {w w' : World} {lo bg n : Nat} {es : List (Bs × Bs)} {tab : Bs → Option Nat} {row : Option Nat} (h : GM w lo bg n es tab) (hg : w.grownBy w' row) (hr : ∀ r, row = some r → bg ≠ r ∧ ∀ a b, tab a = some b → b ≠ r) : GM w' lo bg n es tab :=
  ⟨h.base, h.top.kept hg (fun e => (hr _ e.symm).1 rfl), fun a b e => (h.kid a b e).kept hg (fun e2 => (hr _ e2.symm).2 a b e rfl), h.inj, h.ge, h.has, h.ok⟩
theorem rowJ {lo b : Nat} {w w' : World} {C : Array Value} {T : TypeId} (h : KeptJ lo w w') (hr : RowIs w b C T) : RowIs w' b C T := h.row hr
theorem belowJ {lo : Nat} {w0 w w' : World} (hb : Below w0.heap.size w0 w) (h : KeptJ lo w w') (hl : w0.heap.size ≤ lo) : Below w0.heap.size w0 w' :=
  hb.trans ⟨h.os, h.tape, h.output, h.size, fun k hk => h.block k (Nat.lt_of_lt_of_le hk hb.size) (.inl (Nat.lt_of_lt_of_le hk hl))⟩
theorem intM_someO (L : Bs → Option Nat) (x : Bs) : (intM L x).isSome = (L x).isSome := by unfold intM; cases L x <;> rfl
theorem grownO {w w' : World} {row : Option Nat} (h : Below w.heap.size w w') : w.grownBy w' row := ⟨h.os, h.tape, h.output, h.size, fun i hi _ => h.block i hi⟩
theorem grownT {w0 w w' : World} {row : Option Nat} (hg : w0.grownBy w row) (h : Below w.heap.size w w') : w0.grownBy w' row :=
  ⟨h.os.trans hg.os, h.tape.trans hg.tape, h.output.trans hg.output, Nat.le_trans hg.size h.size, fun i hi hr => (h.block i (Nat.lt_of_lt_of_le hi hg.size)).trans (hg.block i hi hr)⟩
theorem grownGG {a b c : World} {row : Option Nat} (h : a.grownBy b row) (k : b.grownBy c row) : a.grownBy c row :=
  ⟨k.os.trans h.os, k.tape.trans h.tape, k.output.trans h.output, Nat.le_trans h.size k.size, fun i hi hr => (k.block i (Nat.lt_of_lt_of_le hi h.size) hr).trans (h.block i hi hr)⟩
theorem grownN {w0 w w' : World} {b1 bs : Nat} (hg : w0.grownBy w (some b1)) (h : w.grownBy w' (some bs)) (hbs : w0.heap.size ≤ bs) : w0.grownBy w' (some b1) :=
  ⟨h.os.trans hg.os, h.tape.trans hg.tape, h.output.trans hg.output, Nat.le_trans hg.size h.size, fun i hi hr => (h.block i (Nat.lt_of_lt_of_le hi hg.size) (fun e => by have := Option.some.inj e; omega)).trans (hg.block i hi hr)⟩
theorem rowG {w w' : World} {b b1 : Nat} {C : Array Value} {T : TypeId} (h : RowIs w b C T) (hg : w.grownBy w' (some b1)) (hne : b ≠ b1) : RowIs w' b C T := row_grownO h hg (fun e => hne (by cases e; rfl))
theorem cellG {w w' : World} {b1 n : Nat} {m : ByteArray → Option Value} {b o : Nat} {v : Value} (hg : w.grownBy w' (some b1)) (hm : KStr w b1 n m) (hc : w.cell? ⟨b, o, none⟩ = some v) : w'.cell? ⟨b, o, none⟩ = some v := by
  have hl := World.block_lt_of_cell? w ⟨b, o, none⟩ hc
  by_cases e : b = b1
  · subst e
    obtain ⟨D, ⟨es, cl, h1, _⟩, _⟩ := hm
    simp [World.cell?, h1] at hc
  · have := hg.block b hl (fun h => e (by cases h; rfl))
    simp only [World.cell?, this] at hc ⊢
    exact hc
/-- 'm[x] = v', as it runs. -/
theorem put_run {P : Program} {k : TypeId} {α : Type} {enc : α → Value} {ok : α → Prop} [DecidableEq α] {w : World} (K : KeyKind P k enc ok) {t e : TypeId} (ht : P.underlying t = some (.map k e)) {b n : Nat} {M : α → Option Value} (hk : KM P k enc w b n M) (hn : n < maxLen) (y : α) (c : Value) (hy : ok y) :
    ∃ w', (Instr.mapUpdate t (.map (some b)) (enc y) c).run P w = .ok () w' ∧ KM P k enc w' b (n + 1) (updK M y c) ∧ w.grownBy w' (some b) ∧ w'.heap.size = w.heap.size := by
  obtain ⟨D, hown, hD⟩ := hk
  obtain ⟨kl, hkl⟩ := K.key y hy
  obtain ⟨w', hrun, h1, h2⟩ := hown.store K.law ht hn hkl (d := .held c) (ps := []) (show hvR c = _ from rfl)
  refine ⟨w', hrun, ⟨_, h1, fun y' kl' hk' => ?_⟩, h2.grown, (by obtain ⟨es, cl, es', cl', _, rfl⟩ := h2; simp [ChangeMaps.setBlock])⟩
  by_cases e : y' = y
  · subst e
    obtain rfl : kl' = kl := by rw [hkl] at hk'; exact (Option.some.inj hk').symm
    have hu : updK M y' c y' = some c := by simp [updK]
    rw [hu]
    refine ⟨Maps.has_put_same hown.isMap (K.law.key hkl) _, fun c' hc' z => ?_⟩
    cases hc'
    exact Maps.atKey_put_same hown.isMap (K.law.key hkl) _ z
  · have hne : kl' ≠ kl := fun e2 => e (K.inj _ _ (K.law.inj hk' (by rw [e2]; exact hkl)))
    have hu : updK M y c y' = M y' := by simp [updK, e]
    rw [hu, Maps.has_put_other hne]
    refine ⟨(hD y' kl' hk').1, fun c' hc' z => ?_⟩
    rw [Maps.atKey_put_other hne]
    exact (hD y' kl' hk').2 c' hc' z
/-- The juniors of the first k roles are there. -/
structure JM (w : World) (b1 : Nat) (rs : List RoleE) (k : Nat) (tab : ByteArray → Option Nat) : Prop where
  top : KStr w b1 k (topM tab)
  has : ∀ s, (tab s).isSome = true ↔ ∃ i, ∃ h : i < rs.length, i < k ∧ rs[i].t.f0 = s
  kid : ∀ s b, tab s = some b → b1 < b ∧ KStr w b 1001 (chM (jmem (rs.map (·.t)) s))
theorem JM.rowK {w w' : World} {b1 : Nat} {rs : List RoleE} {k : Nat} {tab : ByteArray → Option Nat} {row : Option Nat} (h : JM w b1 rs k tab) (hg : w.grownBy w' row) (hr : ∀ r, row = some r → r < b1 ∨ w.heap.size ≤ r) : JM w' b1 rs k tab := by
  have aux : ∀ (b n : Nat) (m : Bs → Option Value), b1 ≤ b → KStr w b n m → KStr w' b n m := fun b n m hb hm => hm.kept hg (fun e => by
    have := hm.lt
    rcases hr b e.symm with h | h <;> omega)
  exact ⟨aux _ _ _ (Nat.le_refl _) h.top, h.has, fun s b e => ⟨(h.kid s b e).1, aux _ _ _ (by have := (h.kid s b e).1; omega) (h.kid s b e).2⟩⟩
theorem JM.keep {w w' : World} {b1 : Nat} {rs : List RoleE} {k : Nat} {tab : ByteArray → Option Nat} (h : JM w b1 rs k tab) (hb : Below w.heap.size w w') : JM w' b1 rs k tab :=
  h.rowK (row := none) ⟨hb.os, hb.tape, hb.output, hb.size, fun i hi _ => hb.block i hi⟩ (fun r h => by cases h)
set_option maxRecDepth 40000 in
set_option maxHeartbeats 8000000 in
theorem learnJuniors_n (b1 b2 : Nat) (hp hg : Hd) (h : Hd) (rs : List RoleE) (w : World) (h30 : rs.length ≤ 30) (hu : ∀ e ∈ rs, e.t.f1.length ≤ 30) (hnd : (nms (rs.map (·.t))).Nodup) (hn : ∀ e ∈ rs, RoleN e.t) (hs : SqRoleE w 0 h rs) (hk : KStr w b1 0 (fun _ => none)) :
    Calls Tryz.prog 86 #[.agg #[.map (some b1), .map (some b2), .slice hp.a hp.len hp.cap, .slice hg.a hg.len hg.cap], .slice h.a h.len h.cap] w fun r w' => (∃ v : Bool, r = .returned (.bool v) ∧ (v = true ↔ GEnd (rs.map (·.t))) ∧ (v = true → ∃ tab, JM w' b1 rs rs.length tab)) ∧ w.grownBy w' (some b1) := by
  have HL := hide hs.1
  have HS := hide hs
  have HN := hide hn
  have HU := hide hu
  have ND := hide hnd
  have zb1 := hk.lt
  obtain ⟨a, len, cap⟩ := h
  simp only at HL
  have L30 : len ≤ 30 := by have := unhide HL; omega
  obtain ⟨W, hW⟩ : ∃ W, W = (w.alloc (.cells #[.map (some b1), .map (some b2), .slice hp.a hp.len hp.cap, .slice hg.a hg.len hg.cap] 68)).alloc (.map #[] 0) := ⟨_, rfl⟩
  have zW : W.heap.size = w.heap.size + 1 + 1 := by rw [hW]; simp
  have G0 : Hid (GM W (w.heap.size + 1) (w.heap.size + 1) 0 [] (fun _ => none)) := hide (by rw [hW]; have := GM.made (w.alloc (.cells #[.map (some b1), .map (some b2), .slice hp.a hp.len hp.cap, .slice hg.a hg.len hg.cap] 68)) (w.heap.size + 1) (by simp); simpa using this)
  have B0 : Hid (Below w.heap.size w W) := hide (by rw [hW]; exact bAl (bAl (Below.refl _ _) _) _)
  have R0 : Hid (RowIs W w.heap.size #[.map (some b1), .map (some b2), .slice hp.a hp.len hp.cap, .slice hg.a hg.len hg.cap] 68) := hide (by rw [hW]; exact (RowIs.new w _ _).keep (bAl (Below.refl _ _) _))
  have HK := hide hk
  have HW := hide hW.symm
  have hmm := @run_makeMap Tryz.prog
  clear hs hn hu hnd hk hW h30
  go_enter Tryz.func86, Tryz.ntmps86
  go_wp2_with fail
  rw [unhide HW]
  clear HW hmm
  go_loopw [15] (fun i w' => ∃ (k : Nat) (es : List (Bs × Bs)) (tab : Bs → Option Nat), k ≤ len ∧ i = .int .i64 k ∧ es.length ≤ k * 30 ∧ Hid (GM w' (w.heap.size + 1) (w.heap.size + 1) es.length es tab) ∧ Hid (∀ p, p ∈ es ↔ edK rs k 0 p) ∧ Hid (w.heap.size + 2 ≤ w'.heap.size) ∧ Hid (RowIs w' w.heap.size #[.map (some b1), .map (some b2), .slice hp.a hp.len hp.cap, .slice hg.a hg.len hg.cap] 68) ∧ Hid (Below w.heap.size w w')) (fun i _ => len - (Go.RowKit.intOf i).toNat)
  case atStart => exact ⟨0, [], _, Nat.zero_le _, rfl, by simp, G0, hide (fun p => ⟨fun h => (by cases h), fun h => absurd h (edK_zero rs p)⟩), hide (by omega), R0, B0⟩
  case round =>
    clear G0 R0 B0 zW
    obtain ⟨k, es, tab, hk, rfl, hes, G, E, Z, R, B⟩ := hrel
    by_cases hlt : k < len
    case neg =>
      have ek : k = rs.length := by have := unhide HL; omega
      have EE : Hid (∀ x y, (x, y) ∈ es ↔ Edg (rs.map (·.t)) x y) := hide (fun x y => by rw [unhide E, ek]; exact edK_all rs x y)
      have LE : es.length ≤ 900 := by omega
      clear E ek
      go_wp2_with fail
      clear hk hlt hes
      go_loopw [35] (fun i w' => ∃ (k : Nat) (tj : ByteArray → Option Nat), k ≤ len ∧ i = .int .i64 k ∧ Hid (GM w' (w.heap.size + 1) (w.heap.size + 1) es.length es tab) ∧ Hid (JM w' b1 rs k tj) ∧ Hid (∀ i (h : i < rs.length), i < k → ¬ Rch (rs.map (·.t)) rs[i].t.f0 rs[i].t.f0) ∧ Hid (w.heap.size + 2 ≤ w'.heap.size) ∧ Hid (RowIs w' w.heap.size #[.map (some b1), .map (some b2), .slice hp.a hp.len hp.cap, .slice hg.a hg.len hg.cap] 68) ∧ Hid (w.grownBy w' (some b1))) (fun i _ => len - (Go.RowKit.intOf i).toNat)
      case atStart => exact ⟨0, fun _ => none, Nat.zero_le _, rfl, G, hide ⟨(unhide HK).keepB (unhide B) zb1, fun s => ⟨fun h => (by cases h), fun ⟨i, _, h, _⟩ => absurd h (Nat.not_lt_zero _)⟩, fun s b h => (by cases h)⟩, hide (fun i _ h => absurd h (Nat.not_lt_zero _)), Z, R, hide (grownO (unhide B))⟩
      case round =>
        clear G Z R B
        obtain ⟨k, tj, hk, rfl, G, J, hA, Z, R, B⟩ := hrel
        by_cases hlt : k < len
        case neg =>
          have ek : k = rs.length := by have := unhide HL; omega
          have YES : Hid (GEnd (rs.map (·.t))) := hide (fun r hr => by
            obtain ⟨e, he, rfl⟩ := List.mem_map.1 hr
            obtain ⟨i, hi, rfl⟩ := List.getElem_of_mem he
            exact unhide hA i hi (by omega))
          have JE : Hid (JM wr b1 rs rs.length tj) := hide (by have := unhide J; rw [ek] at this; exact this)
          clear hA J ek G
          go_wp2_with fail
          go_ret
          exact ⟨⟨true, rfl, ⟨fun _ => unhide YES, fun _ => rfl⟩, fun _ => ⟨tj, unhide JE⟩⟩, unhide B⟩
        have hk' : k < rs.length := by have := unhide HL; omega
        obtain ⟨b, off, e0, hrow⟩ := (unhide HS).at hlt
        simp only at e0
        subst e0
        have c0 := cellG (unhide B) (unhide HK) (hrow.c0 k hk')
        have c1 := cellG (unhide B) (unhide HK) (hrow.c1 k hk')
        have c2 := cellG (unhide B) (unhide HK) (hrow.c2 k hk')
        have o0 := (unhide HN _ (List.getElem_mem hk')).o0
        have NOG : Hid (Rch (rs.map (·.t)) rs[k].t.f0 rs[k].t.f0 → ¬ GEnd (rs.map (·.t))) := hide (fun h g => g _ (List.mem_map_of_mem (List.getElem_mem hk')) h)
        have STP : Hid (¬ Rch (rs.map (·.t)) rs[k].t.f0 rs[k].t.f0 → ∀ i (h : i < rs.length), i < k + 1 → ¬ Rch (rs.map (·.t)) rs[i].t.f0 rs[i].t.f0) := hide (fun g i hi h1 => by
          rcases Nat.lt_or_ge i k with h2 | h2
          · exact unhide hA i hi h2
          · obtain rfl : i = k := by omega
            exact g)
        have JS : Hid (∀ (w' : World) (bs : Nat), KStr w' b1 (k + 1) (topM (fun y => if y = rs[k].t.f0 then some bs else tj y)) → b1 < bs → KStr w' bs 1001 (chM (jmem (rs.map (·.t)) rs[k].t.f0)) → (∀ s b, tj s = some b → b1 < b ∧ KStr w' b 1001 (chM (jmem (rs.map (·.t)) s))) → JM w' b1 rs (k + 1) (fun y => if y = rs[k].t.f0 then some bs else tj y)) := hide (fun w' bs h1 h2 h3 h4 => ⟨h1, fun s => by
          by_cases e : s = rs[k].t.f0
          · simp only [e, if_true, Option.isSome_some, true_iff]; exact ⟨k, hk', by omega, rfl⟩
          · simp only [e, if_false]
            rw [(unhide J).has s]
            constructor
            · rintro ⟨i, hi, h5, h6⟩; exact ⟨i, hi, by omega, h6⟩
            · rintro ⟨i, hi, h5, h6⟩
              refine ⟨i, hi, ?_, h6⟩
              rcases Nat.lt_or_ge i k with h7 | h7
              · exact h7
              · obtain rfl : i = k := by omega
                exact absurd h6.symm e, fun s b h => by
          by_cases e : s = rs[k].t.f0
          · rw [if_pos e] at h
            have hb : bs = b := Option.some.inj h
            rw [← hb, e]
            exact ⟨h2, h3⟩
          · rw [if_neg e] at h; exact h4 s b h⟩)
        have MS : Hid (∀ (L : Bs → Option Nat), (∀ b n, L b = some n ↔ Dist (fun x y => (x, y) ∈ es) rs[k].t.f0 b n) → ∀ x, (ByteArray.size x ≤ maxLen ∧ (intM L x).isSome = true) ↔ Rch (rs.map (·.t)) rs[k].t.f0 x) := hide (fun L hL x => by
          have hE : ∀ x y, (fun x y => (x, y) ∈ es) x y ↔ Edg (rs.map (·.t)) x y := unhide EE
          rw [rch_dist]
          constructor
          · rintro ⟨_, h⟩
            rw [intM_someO] at h
            obtain ⟨n, hn⟩ := Option.isSome_iff_exists.1 h
            exact ⟨n, (dist_congr hE).1 ((hL x n).1 hn)⟩
          · rintro ⟨n, hn⟩
            refine ⟨?_, ?_⟩
            · obtain ⟨h1, h2, _⟩ := hn
              obtain ⟨m, rfl⟩ : ∃ m, n = m + 1 := ⟨n - 1, by omega⟩
              obtain ⟨c, _, r, hr, _, hx⟩ := h2
              obtain ⟨e, he, rfl⟩ := List.mem_map.1 hr
              exact (unhide HN e he).o1 x hx
            · rw [intM_someO]
              rw [(hL x n).2 ((dist_congr hE).2 hn)]; rfl)
        obtain ⟨W, hW⟩ : ∃ W, W = wr.alloc (.cells #[.string rs[k].t.f0, .slice rs[k].h1.a rs[k].h1.len rs[k].h1.cap, .slice rs[k].h2.a rs[k].h2.len rs[k].h2.cap] 103) := ⟨_, rfl⟩
        have bW : Below wr.heap.size wr W := by rw [hW]; exact bAl (Below.refl _ _) _
        have qW := hide (show RowIs W wr.heap.size #[.string rs[k].t.f0, .slice rs[k].h1.a rs[k].h1.len rs[k].h1.cap, .slice rs[k].h2.a rs[k].h2.len rs[k].h2.cap] 103 by rw [hW]; exact RowIs.new wr _ _)
        have HW := hide hW.symm
        have GW := hide ((unhide G).keepB bW (Nat.le_refl _))
        have JW := hide ((unhide J).keep bW)
        have WR := hide ((unhide R).keep bW)
        have BW := hide (grownT (unhide B) bW)
        have ZW : w.heap.size + 2 ≤ W.heap.size := Nat.le_trans (unhide Z) bW.size
        have zx : wr.heap.size < W.heap.size := (unhide qW).lt
        have zx2 : w.heap.size + 2 ≤ wr.heap.size := unhide Z
        obtain ⟨bx, hbx⟩ : ∃ n, n = wr.heap.size := ⟨_, rfl⟩
        rw [← hbx] at qW zx zx2
        have HBX := hide hbx.symm
        clear hW bW hrow hbx hA G J R B Z
        generalize rs[k] = A at *
        obtain ⟨⟨f0, f1, f2⟩, g1, g2⟩ := A
        simp only at *
        have s0 := (unhide WR).at (o := 0) (v := .map (some b1)) rfl
        have s1 := (unhide qW).at (o := 0) (v := .string f0) rfl
        have q1 := hide (steps_any (w.heap.size + 1) (w.heap.size + 1) es.length es tab f0 W.drew ((unhide GW).keepB (Below.refl _ _).drew (Nat.le_refl _)) LE o0)
        go_wp2_with fail
        rw [unhide HW, unhide HBX]
        clear HW HBX c0 c1 c2
        go_region_held3 (fun w' => w'.cell? ⟨w.heap.size, 0, none⟩ = some (.map (some b1)) ∧ w'.cell? ⟨bx, 0, none⟩ = some (.string f0))
          (first | exact ⟨s0, s1⟩ | exact unhide Y2 | exact unhide Y3 | exact unhide Y4 | exact unhide Y5)
          (first
            | (go_at_call 109; refine (unhide q1).mono ?_; rintro e w2 ⟨⟨bl, L, rfl, _, hK, hD⟩, hb⟩; replace hb := undrew hb; have R2 := hide ((unhide WR).keep hb); have Q2 := hide ((unhide qW).keep hb); have Y2 := hide (And.intro ((unhide R2).at (o := 0) (v := .map (some b1)) rfl) ((unhide Q2).at (o := 0) (v := .string f0) rfl)); have G2 := hide ((unhide GW).keepB hb (Nat.le_refl _)); have J2 := hide ((unhide JW).keep hb); have B2 := hide (grownT (unhide BW) hb); have Z2 : W.heap.size ≤ w2.heap.size := hb.size; have M2 := hide (unhide MS L hD); have q2 := hide (keysInt_any bl 1000 (intM L) w2 hK (by omega)); clear hK hD hb)
            | (go_at_call 68; refine (unhide q2).mono ?_; rintro e w3 ⟨⟨v, r, rfl, _, hm, hlen, ho⟩, hb⟩; obtain ⟨av, cv, ev, sv⟩ := own_strs ho; subst ev; have R3 := hide ((unhide R2).keep hb); have Q3 := hide ((unhide Q2).keep hb); have Y3 := hide (And.intro ((unhide R3).at (o := 0) (v := .map (some b1)) rfl) ((unhide Q3).at (o := 0) (v := .string f0) rfl)); have G3 := hide ((unhide G2).keepB hb (Nat.le_refl _)); have J3 := hide ((unhide J2).keep hb); have B3 := hide (grownT (unhide B2) hb); have Z3 : W.heap.size ≤ w3.heap.size := Nat.le_trans Z2 hb.size; have M3 : Hid (∀ x, x ∈ r ↔ Rch (rs.map (·.t)) f0 x) := hide (fun x => (hm x).trans (unhide M2 x)); have q3 := hide (setOf_n ⟨av, r.length, cv⟩ r w3 (by omega) (fun x hx => ((hm x).1 hx).1) (SqS.of (sls_back sv))); clear hm ho hb sv q2)
            | (go_at_call 82; refine (unhide q3).mono ?_; rintro e w4 ⟨⟨bs, rfl, hbs, hK⟩, hb⟩; have R4 := hide ((unhide R3).keep hb); have Q4 := hide ((unhide Q3).keep hb); have Y4 := hide (And.intro ((unhide R4).at (o := 0) (v := .map (some b1)) rfl) ((unhide Q4).at (o := 0) (v := .string f0) rfl)); have G4 := hide ((unhide G3).keepB hb (Nat.le_refl _)); have J4 := hide ((unhide J3).keep hb); have B4 := hide (grownT (unhide B3) hb); have Z4 : W.heap.size ≤ w4.heap.size := Nat.le_trans Z3 hb.size; have N4 : W.heap.size ≤ bs := Nat.le_trans Z3 hbs; have K4 := hide (show KStr w4 bs 1000 (chM (Rch (rs.map (·.t)) f0)) by rw [← chM_congr (unhide M3)]; exact hK.more hlen); clear hK hb hbs q3; obtain ⟨w5, hrun5, hk5, hg5, hs5⟩ := put_run (t := 66) kStr Tryz.underlying66 (unhide J4).top (by unfold maxLen; omega) f0 (.map (some bs)) o0; rw [← updTab] at hk5; have R5 := hide (rowG (unhide R4) hg5 (by omega)); have Q5 := hide (rowG (unhide Q4) hg5 (by omega)); have Y5 := hide (And.intro ((unhide R5).at (o := 0) (v := .map (some b1)) rfl) ((unhide Q5).at (o := 0) (v := .string f0) rfl)); have G5 := hide (GM.rowK (unhide G4) hg5 (fun r h => by cases h; exact .inl (by omega))); have K5 := hide (show KStr w5 bs 1000 (chM (Rch (rs.map (·.t)) f0)) from (unhide K4).kept hg5 (fun e => by cases e; omega)); have T5 := hide hk5; have D5 : Hid (∀ s b, tj s = some b → b1 < b ∧ b < W.heap.size ∧ KStr w5 b 1001 (chM (jmem (rs.map (·.t)) s))) := hide (fun s b h => ⟨((unhide J4).kid s b h).1, ((unhide JW).kid s b h).2.lt, ((unhide J4).kid s b h).2.kept hg5 (fun e => Nat.lt_irrefl b1 (Option.some.inj e ▸ ((unhide J4).kid s b h).1))⟩); have B5 := hide (grownGG (unhide B4) hg5); have S5 := hide hs5; clear hk5 hg5 hs5))
        iterate 14 (try clear hHeld)
        have GB : Hid (w.heap.size + 1 ≠ bs ∧ ∀ a b, tab a = some b → b ≠ bs) := hide ⟨by have := (unhide GW).top.lt; omega, fun a b e => by have := ((unhide GW).kid a b e).lt; omega⟩
        have ev := hide (show (topM (fun y => if y = f0 then some bs else tj y) f0).getD (.map none) = Value.map (some bs) by simp [topM])
        obtain ⟨y0, y1⟩ := unhide Y5
        have qh := hide (hasS_n bs 1000 (Rch (rs.map (·.t)) f0) f0 w5 o0 (unhide K5))
        have sz5 : w5.heap.size = w4.heap.size := unhide S5
        clear q1 MS GW JW WR BW qW s0 s1 R2 Q2 Y2 G2 J2 B2 M2 R3 Q3 Y3 G3 J3 B3 M3 R4 Q4 Y4 G4 J4 B4 K4 hrun5 Y5 S5
        go_wp2_with (at_lookup; refine wpList_get_km _ kStr rfl _ _ _ rfl _ Tryz.underlying66 (zeroSet _) b1 (k + 1) _ rfl (unhide T5) f0 rfl o0 _ (unhide ev) ?_)
        refine (unhide qh).mono ?_
        rintro e w6 ⟨⟨v, rfl, hv⟩, hb⟩
        cases v
        case true =>
          have no := hide (unhide NOG (hv.1 rfl))
          have B6 := hide (grownT (unhide B5) hb)
          clear hv hb qh STP JS NOG D5 K5 T5 G5 R5 Q5 B5
          go_wp2_with fail
          go_ret
          exact ⟨⟨false, rfl, ⟨fun h => (by cases h), fun h => absurd h (unhide no)⟩, fun h => (by cases h)⟩, unhide B6⟩
        have S := hide (unhide STP (fun h => by have := hv.2 h; cases this))
        have T6 := hide (show KStr w6 b1 (k + 1) (topM (fun y => if y = f0 then some bs else tj y)) from (unhide T5).keepB hb (unhide T5).lt)
        have K6 := hide (show KStr w6 bs 1000 (chM (Rch (rs.map (·.t)) f0)) from (unhide K5).keepB hb (unhide K5).lt)
        have R6 := hide ((unhide R5).keep hb)
        have q6 := (unhide Q5).keep hb
        have Q6 := hide q6
        have x0 := (unhide R6).at (o := 0) (v := .map (some b1)) rfl
        have x1 := (unhide Q6).at (o := 0) (v := .string f0) rfl
        have G6 := hide ((unhide G5).keepB hb (Nat.le_refl _))
        have D6 : Hid (∀ s b, tj s = some b → b1 < b ∧ b < W.heap.size ∧ KStr w6 b 1001 (chM (jmem (rs.map (·.t)) s))) := hide (fun s b h => ⟨(unhide D5 s b h).1, (unhide D5 s b h).2.1, (unhide D5 s b h).2.2.keepB hb (by have := (unhide D5 s b h).2.1; omega)⟩)
        have B6 := hide (grownT (unhide B5) hb)
        have z6 : w5.heap.size ≤ w6.heap.size := hb.size
        have qa := hide (add_any bs 1000 (chM (Rch (rs.map (·.t)) f0)) f0 w6 (unhide K6) (by unfold maxLen; omega) o0)
        clear hv hb qh STP NOG D5 K5 T5 G5 R5 Q5 B5 y0 y1 q6
        go_wp2_with (at_lookup; refine wpList_get_km _ kStr rfl _ _ _ rfl _ Tryz.underlying66 (zeroSet _) b1 (k + 1) _ rfl (unhide T6) f0 rfl o0 _ (unhide ev) ?_)
        refine (unhide qa).mono ?_
        rintro e w7 ⟨rfl, h1, h2, h3⟩
        have K7 : KStr w7 bs 1001 (chM (jmem (rs.map (·.t)) f0)) := by
          rw [chM_upd] at h1
          have e : chM (jmem (rs.map (·.t)) f0) = chM (fun y => Rch (rs.map (·.t)) f0 y ∨ y = f0) := chM_congr (fun x => or_comm)
          rw [e]; exact h1
        have J7 := hide (unhide JS w7 bs ((unhide T6).kept h2 (fun e => by have := Option.some.inj e; omega)) (by omega) K7 (fun s b h => ⟨(unhide D6 s b h).1, (unhide D6 s b h).2.2.kept h2 (fun e => by have := Option.some.inj e; have := (unhide D6 s b h).2.1; omega)⟩))
        have G7 := hide (GM.rowB (unhide G6) h2 (fun r h => by cases h; exact unhide GB))
        have R7 := hide (rowG (unhide R6) h2 (by omega))
        have Z7 : Hid (w.heap.size + 2 ≤ w7.heap.size) := hide (by omega)
        have B7 := hide (grownN (unhide B6) h2 (by omega))
        clear h1 h2 h3 K7 T6 K6 R6 Q6 G6 D6 B6 qa JS GB x0 x1
        go_wp2_with fail
        exact ⟨⟨k + 1, _, by omega, by go_num, G7, J7, S, Z7, R7, B7⟩, by simp [Go.RowKit.intOf]; omega⟩
    have hk' : k < rs.length := by have := unhide HL; omega
    obtain ⟨b, off, e0, hrow⟩ := ((unhide HS).keep (unhide B)).at hlt
    simp only at e0
    subst e0
    have c0 := hrow.c0 k hk'
    have c1 := hrow.c1 k hk'
    have c2 := hrow.c2 k hk'
    have hnk := unhide HN _ (List.getElem_mem hk')
    have MM := hide ((unhide HS).2.2 _ (List.getElem_mem hk')).m1
    have EL := hide ((unhide HS).2.2 _ (List.getElem_mem hk')).m1.1
    have O1 := hide hnk.o1
    have o0 := hnk.o0
    have U1 := unhide HU _ (List.getElem_mem hk')
    have STEP : Hid (∀ m (hm : m < rs[k].t.f1.length) (es : List (Bs × Bs)), (∀ p, p ∈ es ↔ edK rs k m p) → ∀ p, p ∈ (rs[k].t.f0, rs[k].t.f1[m]) :: es ↔ edK rs k (m + 1) p) := hide (fun m hm es h p => by rw [List.mem_cons, h p]; exact (edK_one hk' hm p).symm)
    have NEXT : Hid (∀ m, m = rs[k].t.f1.length → ∀ p, edK rs (k + 1) 0 p ↔ edK rs k m p) := hide (fun m hm p => edK_next hk' hm p)
    obtain ⟨W, hW⟩ : ∃ W, W = wr.alloc (.cells #[.string rs[k].t.f0, .slice rs[k].h1.a rs[k].h1.len rs[k].h1.cap, .slice rs[k].h2.a rs[k].h2.len rs[k].h2.cap] 103) := ⟨_, rfl⟩
    have bW : Below wr.heap.size wr W := by rw [hW]; exact bAl (Below.refl _ _) _
    have qW := hide (show RowIs W wr.heap.size #[.string rs[k].t.f0, .slice rs[k].h1.a rs[k].h1.len rs[k].h1.cap, .slice rs[k].h2.a rs[k].h2.len rs[k].h2.cap] 103 by rw [hW]; exact RowIs.new wr _ _)
    have HW := hide hW.symm
    have G1 := hide ((unhide G).keepB bW (Nat.le_refl _))
    have R1 := hide ((unhide R).keep bW)
    have B1 := hide (bTr (unhide B) bW)
    have Z1 := hide (Nat.le_trans (unhide Z) bW.size)
    clear hW bW hrow hnk G R B Z
    generalize rs[k] = A at *
    obtain ⟨⟨f0, f1, f2⟩, ⟨ga, gl, gc⟩, g2⟩ := A
    simp only at *
    have s1 := (unhide qW).at (o := 1) (v := .slice ga gl gc) rfl
    go_wp2_with fail
    rw [unhide HW]
    go_wp2_with fail
    clear s1 c0 c1 c2 HW
    obtain ⟨bx, hbx⟩ : ∃ n, n = wr.heap.size := ⟨_, rfl⟩
    rw [← hbx] at qW ⊢
    clear hbx
    go_loopw [22] (fun i w' => ∃ (m : Nat) (es : List (Bs × Bs)) (tab : Bs → Option Nat), m ≤ gl ∧ i = .int .i64 m ∧ es.length ≤ k * 30 + m ∧ Hid (GM w' (w.heap.size + 1) (w.heap.size + 1) es.length es tab) ∧ Hid (∀ p, p ∈ es ↔ edK rs k m p) ∧ Hid (w.heap.size + 2 ≤ w'.heap.size) ∧ Hid (RowIs w' w.heap.size #[.map (some b1), .map (some b2), .slice hp.a hp.len hp.cap, .slice hg.a hg.len hg.cap] 68) ∧ Hid (RowIs w' bx #[.string f0, .slice ga gl gc, .slice g2.a g2.len g2.cap] 103) ∧ Hid (Below w.heap.size w w')) (fun i _ => gl - (Go.RowKit.intOf i).toNat)
    case atStart => exact ⟨0, es, tab, Nat.zero_le _, rfl, by omega, G1, E, Z1, R1, qW, B1⟩
    case round =>
      clear G1 R1 B1 Z1 E hes qW
      obtain ⟨m, es, tab, hm, rfl, hes, G, E, Z, R, Q, B⟩ := hrel
      have EL' : gl = f1.length := unhide EL
      by_cases hm2 : m < gl
      case neg =>
        have E1 : Hid (∀ p, p ∈ es ↔ edK rs (k + 1) 0 p) := hide (fun p => (unhide E p).trans (unhide NEXT m (by omega) p).symm)
        have l1 : es.length ≤ (k + 1) * 30 := by omega
        clear E NEXT STEP EL'
        go_wp2_with fail
        exact ⟨⟨k + 1, es, tab, by omega, by go_num, l1, G, E1, Z, R, B⟩, by simp [Go.RowKit.intOf]; omega⟩
      have hm' : m < f1.length := by omega
      obtain ⟨bp, offp, ep, rowp⟩ := ((unhide MM).keep (unhide B)).sl.at hm2
      simp only at ep
      have n0 := rowp.c m hm'
      have hsz := unhide O1 _ (List.getElem_mem hm')
      have E1 := hide (unhide STEP m hm' es (unhide E))
      have q := hide (join_any (w.heap.size + 1) (w.heap.size + 1) es.length es tab f0 f1[m] wr (unhide G) (by have := unhide Z; omega) (by omega) o0 hsz)
      clear rowp E EL'
      generalize f1[m] = nm at *
      subst ep
      have s0 := (unhide Q).at (o := 0) (v := .string f0) rfl
      go_wp2_with fail
      refine (unhide q).mono ?_
      rintro r w1 ⟨rfl, ⟨tab', hG⟩, hJ⟩
      have G1 := hide (show GM w1 (w.heap.size + 1) (w.heap.size + 1) ((f0, nm) :: es).length ((f0, nm) :: es) tab' from hG)
      have R1 := hide (rowJ hJ (unhide R))
      have Q1 := hide (rowJ hJ (unhide Q))
      have Z1 := hide (Nat.le_trans (unhide Z) hJ.size)
      have B1 := hide (belowJ (unhide B) hJ (Nat.le_succ _))
      have l1 : ((f0, nm) :: es).length ≤ k * 30 + (m + 1) := by rw [List.length_cons]; omega
      clear hG hJ G R Q Z B q s0 n0
      go_wp2_with fail
      exact ⟨⟨m + 1, (f0, nm) :: es, tab', by omega, by go_num, l1, G1, E1, Z1, R1, Q1, B1⟩, by simp [Go.RowKit.intOf]; omega⟩
end Go.Proofs.YtfbncneeimikcaaGreat.V
