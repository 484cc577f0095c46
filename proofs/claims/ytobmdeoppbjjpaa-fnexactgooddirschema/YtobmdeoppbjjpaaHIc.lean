/- impl.dirIndex: lineage. -/
import Derived.Test.YtobmdeoppbjjpaaHIb
import Derived.BigQuiet
import Derived.Deep.RegionHeld3
import Derived.Deep.AppendLies
import Derived.Laws.AppendOwn
import Derived.Laws.OwnMore
namespace Go.Proofs.Ytobmdeoppbjjpaa.V
set_option linter.unusedSimpArgs false
set_option linter.unusedVariables false
open Go.RowKit Go.Maps

def slN : Value → Nat
  | .slice _ n _ => n
  | _ => 0
theorem own_sl' {w : World} {base e size n : Nat} {v : Value} {xs : List Value} (h : w.ownsRow base e size v n xs) : ∃ a cap, v = .slice a n cap := by
  rcases h.2 with ⟨rfl, rfl⟩ | ⟨g, cap, cur, rfl, _⟩
  · exact ⟨_, _, rfl⟩
  · exact ⟨_, _, rfl⟩
theorem own_keep' {w w' : World} {base n e size : Nat} {v : Value} {xs : List Value} (h : w.ownsRow base e size v n xs) (hb : Below w.heap.size w w') : w'.ownsRow base e size v n xs := by
  refine ⟨h.1, h.2.imp_right ?_⟩
  rintro ⟨g, cap, cur, e', h1, hh, r⟩
  refine ⟨g, cap, cur, e', h1, ?_, r⟩
  rw [hb.block g (h.lt g (by rw [e']; rfl)).2]; exact hh
theorem addr_plus' (b off k : Nat) : (⟨b, off, none⟩ : Addr).add k = ⟨b, off + k, none⟩ := by
  unfold Addr.add; split <;> simp_all
theorem cell_new_at' (W : World) (n : Nat) (hn : n = W.heap.size) (C : Array Value) (t : TypeId) (l : List Value) (hl : l = C.toList) : ∀ j u, l[j]? = some u → (W.alloc (.cells C t)).cell? ((⟨n, 0, none⟩ : Addr).add j) = some u := by
  subst hn hl
  intro j u hu
  rw [addr_plus', Nat.zero_add]
  exact (RowIs.new W C t).at (by rw [← Array.getElem?_toList]; exact hu)
theorem str_neY {a b : ByteArray} (h : ¬ a = b) : (ByteArray.toList a == ByteArray.toList b) = false := by
  have : ¬ a.toList = b.toList := fun e => h (by
    rw [ByteArray.toList_eq, ByteArray.toList_eq] at e
    exact Go.WideShapes.bytes_inj e)
  simpa using this
theorem wpList_len_want' {H : Type} {P : Program} (w : World) {ops : Array Oper} {rest : List Oper} {o : Oper} {a : Act} {Q : Exit → Act → World → Prop} (hw : Region.wanted o (yielded ops a.tmps) = true) (m : Operand) (t : TypeId) (hop : o.op = Op.call { callee := Callee.builtin Builtin.len, args := #[m], argTypes := #[t] })
    (k e : TypeId) (ht : P.underlying t = some (.map k e)) (R : Value → Option (DataW H × List MemPlace)) (b n : Nat) (D : DataW H) (hm : a.eval m = .map (some b)) (hown : w.ownsMap P k R b n D)
    (hK : wpList P ops Q rest (a.put o.dst (.int .i64 (Maps.size D))) w) : wpList P ops Q (o :: rest) a w := by
  refine BigFrame.wpList_want hw fun K' hK' => ?_
  unfold Oper.wp
  simp [execOp, hop, resolve, invoke, builtin, hm, hown.len ht o.type, Result.andThen]
  exact hK' _ _ hK
theorem wp_app' {P : Program} (w : World) {o : Oper} {a : Act} {K : Act → World → Prop} {Q : Exit → Act → World → Prop} (s x : Operand) (t : TypeId)
    (ho : o.op = .call { callee := .builtin .append, args := #[s, x], argTypes := #[t, t] })
    (base : Nat) (e : TypeId) (i : TypeInfo) (z : Value) (size bytes : Nat) (ht : P.underlying t = some (.slice e)) (hi : P.info? e = some i) (hz : i.zero = some z)
    (hsize : i.size = size) (hby : i.bytes = bytes) (hzs : z.cells.size = size) (hsz : 0 < size)
    (v : Value) (n : Nat) (xs : List Value) (hs : a.eval s = v) (hown : w.ownsRow base e size v n xs)
    (ao : Option Addr) (m c : Nat) (news : List Value) (hx : a.eval x = .slice ao m c) (hao : ao = none → m = 0 ∧ c = 0) (hl : news.length = m * size) (hnews : ∀ ad, ao = some ad → ∀ j u, news[j]? = some u → w.cell? (ad.add j) = some u) (h1 : ∀ u ∈ news, u.oneCell' = true)
    (h63 : n + m ≤ maxLen) (hbytes : (n + m) * bytes ≤ 140737488355328) (hbase : base ≤ w.heap.size)
    (h : ∀ v' w', w'.ownsRow base e size v' (n + m) (xs ++ news) → w.grownBy w' v.ownBlock → K (a.put o.dst v') w') : o.wp P a w K Q := by
  cases ao with
  | some ad => exact wp_append_own w s x t ho base e i z size bytes ht hi hz hsize hby hzs hsz v n xs hs hown ad m c news hx hl (hnews ad rfl) h1 h63 hbytes hbase fun v' w' h2 h3 _ => h v' w' h2 h3
  | none =>
    obtain ⟨rfl, rfl⟩ := hao rfl
    have hn : news = [] := List.eq_nil_of_length_eq_zero (by simpa using hl)
    subst hn
    have hr := run_append_owned_none (P := P) (w := w) base t o.type e i size ht hi v n xs hown
    have h2 : w.ownsRow base e size v (n + 0) (xs ++ []) := by simpa using hown
    have := h v w h2 ⟨rfl, rfl, rfl, Nat.le_refl _, fun _ _ _ => rfl⟩
    unfold Oper.wp execOp
    simp only [ho, resolve, invoke, builtin, Sem.run_bind, Sem.run_pure, Result.andThen_ok, List.map_toArray, List.map_cons, List.map_nil, hs, hx, hr]
    exact this

theorem step_app' {P : Program} (w : World) {ops : Array Oper} {o : Oper} {a : Act} {K : Act → World → Prop} {Q : Exit → Act → World → Prop} {E : Prop} (hgd : o.guard = none) (s x : Operand) (t : TypeId)
    (ho : o.op = .call { callee := .builtin .append, args := #[s, x], argTypes := #[t, t] })
    (base : Nat) (e : TypeId) (i : TypeInfo) (z : Value) (size bytes : Nat) (ht : P.underlying t = some (.slice e)) (hi : P.info? e = some i) (hz : i.zero = some z)
    (hsize : i.size = size) (hby : i.bytes = bytes) (hzs : z.cells.size = size) (hsz : 0 < size)
    (v : Value) (n : Nat) (xs : List Value) (hs : a.eval s = v) (hown : w.ownsRow base e size v n xs)
    (ao : Option Addr) (m c : Nat) (news : List Value) (hx : a.eval x = .slice ao m c) (hao : ao = none → m = 0 ∧ c = 0) (hl : news.length = m * size) (hnews : ∀ ad, ao = some ad → ∀ j u, news[j]? = some u → w.cell? (ad.add j) = some u) (h1 : ∀ u ∈ news, u.oneCell' = true)
    (h63 : n + m ≤ maxLen) (hbytes : (n + m) * bytes ≤ 140737488355328) (hbase : base ≤ w.heap.size)
    (h : ∀ v' w', w'.ownsRow base e size v' (n + m) (xs ++ news) → w.grownBy w' v.ownBlock → K (a.put o.dst v') w') :
    if Region.wanted o (yielded ops a.tmps) = true then Oper.wp P o a w K Q else E := by
  have hw : Region.wanted o (yielded ops a.tmps) = true := by simp [Region.wanted, hgd]
  rw [if_pos hw]
  exact wp_app' w s x t ho base e i z size bytes ht hi hz hsize hby hzs hsz v n xs hs hown ao m c news hx hao hl hnews h1 h63 hbytes hbase h
theorem own_not' {w : World} {base e size : Nat} {v : Value} {n : Nat} {xs : List Value} {b : Nat} {o : Obj} (h : w.ownsRow base e size v n xs) (hb : w.heap[b]? = some o) (hno : ∀ cur, o ≠ .cells cur e (0, 0)) : v.ownBlock ≠ some b := by
  rcases h.2 with ⟨rfl, _⟩ | ⟨g, cap, cur, rfl, _, hg, _⟩
  · simp [Value.ownBlock]
  · intro e1
    simp [Value.ownBlock] at e1
    subst e1
    rw [hg] at hb
    exact hno cur (Option.some.inj hb).symm
theorem ownsMapB {w w' : World} {b n : Nat} {D : DataW Value} (h : w.ownsMap Try.prog 9 hvR b n D) (hb : Below w.heap.size w w') : w'.ownsMap Try.prog 9 hvR b n D := by
  have hl := h.lt
  obtain ⟨es, clock, h1, h2⟩ := h
  exact ⟨es, clock, (hb.block b hl).trans h1, h2⟩
set_option maxRecDepth 20000 in
set_option maxHeartbeats 4000000 in
theorem lineage_n (b1 b2 : Nat) (cs : List ClassE) (M : ByteArray → Option Value) (C : ByteArray → Option ClassE) (D : DataW Value) (s : ByteArray) (w : World) (hs : s.size ≤ maxLen) (hcs : cs.length ≤ 1000) (hn : ∀ e ∈ cs, ClassN e.t) (ho : w.ownsMap Try.prog 9 hvR b2 cs.length D) (hD : KD Try.prog 9 Value.string D M) (hC : KC (·.t.f0) clV cs M C) :
    Calls Try.prog 43 #[.agg #[.map (some b1), .map (some b2)], .string s] w fun r w' => (∃ v ok, r = .returned (.tuple #[v, .bool ok]) ∧ (ok = true ↔ EndsF (fun s => (C s).map (·.t)) (Maps.size D) s)) ∧ Below w.heap.size w w' := by
  have B := hide (bAl (Below.refl w.heap.size w) (.cells #[.map (some b1), .map (some b2)] 55))
  have R := hide (RowIs.new w #[.map (some b1), .map (some b2)] 55)
  have HO := hide (fun (w' : World) (hb : Below w.heap.size w w') => ownsMapB ho hb)
  have HD := hide hD
  have HC := hide hC
  have HN := hide hn
  have SZ : Hid (Maps.size D ≤ 1000) := hide (Nat.le_trans ho.size_le hcs)
  obtain ⟨N, hN⟩ : ∃ N, N = Maps.size D := ⟨_, rfl⟩
  have EN := hide hN.symm
  rw [← hN] at SZ ⊢
  obtain ⟨i0, hi, hz0, hz1, hz2⟩ := info_parts info_Class
  clear ho hD hC hn hcs hN
  obtain ⟨F, hF⟩ : ∃ F, F = (fun s => (C s).map (·.t)) := ⟨_, rfl⟩
  have FE := hide (fun s => congrFun hF s)
  rw [← hF]
  clear hF
  go_enter Try.func43, Try.ntmps43
  go_wp2_with fail
  go_loopw [1, 6] (fun x u w' => ∃ (k : Nat) (t : ByteArray) (X : List Value), k ≤ N ∧ x = .string t ∧ t.size ≤ maxLen ∧ Hid (EndsF F N s ↔ EndsF F (N - k) t) ∧ Hid (w'.ownsRow w.heap.size 45 4 u k X) ∧ Hid (Below w.heap.size w w') ∧ Hid (RowIs w' w.heap.size #[.map (some b1), .map (some b2)] 55)) (fun _ u _ => N - slN u)
  case atStart => exact ⟨0, s, [], Nat.zero_le _, rfl, hs, hide Iff.rfl, hide (World.ownsRow_nil _ _ _ _), B, R⟩
  case round =>
    clear B R hs
    obtain ⟨k, t, X, hk, rfl, ht, E, O, B, R⟩ := hrel
    by_cases he : t = ⟨#[]⟩
    · have yes : Hid (EndsF F N s) := hide ((unhide E).2 (by rw [he]; exact ends_empty F _))
      subst he
      clear E FE
      go_wp2_with fail
      refine bodyPost_ret (v := .tuple #[_, .bool true]) (by simp [results, Try.results43, go_sem]; rfl) rfl ⟨⟨_, true, rfl, fun _ => unhide yes, fun _ => rfl⟩, unhide B⟩
    have ne1 : (t.toList == []) = false := by
      have := str_neY he
      simpa using this
    have r1 := (unhide R).at (o := 1) (v := .map (some b2)) rfl
    have zl := (unhide R).lt
    have fe := unhide FE t
    obtain ⟨h1, h2, h3⟩ := unhide HC t
    have HM := hide (show KStr wr b2 _ M from ⟨D, unhide HO _ (unhide B), unhide HD⟩)
    have OM := hide (unhide HO _ (unhide B))
    cases hc : C t
    · have er : Hid ((M t).isSome = false) := hide (by rw [h1, hc]; rfl)
      have ev : Hid ((M t).getD (.agg #[.string ⟨#[]⟩, .string ⟨#[]⟩, .slice none 0 0, .slice none 0 0]) = .agg #[.string ⟨#[]⟩, .string ⟨#[]⟩, .slice none 0 0, .slice none 0 0]) := hide (by rw [h1, hc]; rfl)
      have no : Hid (¬ EndsF F N s) := hide (fun g => by
        have g2 := (unhide E).1 g
        rw [hc] at fe
        cases hj : N - k with
        | zero => rw [hj] at g2; exact he g2
        | succ j =>
          rw [hj] at g2
          rcases g2 with g2 | ⟨c, g2, _⟩
          · exact he g2
          · rw [fe] at g2; cases g2)
      clear E FE hc h1 h2 h3 fe he
      go_wp2_with (at_lookup; refine wpList_look_km _ kStr rfl _ _ _ rfl _ Try.underlying53 (zeroCL _) b2 _ _ rfl (unhide HM) t rfl ht _ _ (unhide ev) (unhide er) ?_)
      refine bodyPost_ret (v := .tuple #[_, .bool false]) (by simp [results, Try.results43, go_sem]; rfl) rfl ⟨⟨_, false, rfl, fun h => (by cases h), fun h => absurd h (unhide no)⟩, bAl (unhide B) _⟩
    · rename_i e
      have er : Hid ((M t).isSome = true) := hide (by rw [h1, hc]; rfl)
      have ev : Hid ((M t).getD (.agg #[.string ⟨#[]⟩, .string ⟨#[]⟩, .slice none 0 0, .slice none 0 0]) = .agg #[.string e.t.f0, .string e.t.f1, .slice e.h2.a e.h2.len e.h2.cap, .slice e.h3.a e.h3.len e.h3.cap]) := hide (by rw [h1, hc]; rfl)
      have hmem := (h3 e hc).1
      have HU := (unhide HN e hmem).o1
      have fe2 : Hid (F t = some e.t) := hide (by rw [fe, hc]; rfl)
      have HE := hide he
      have OMA := hide (ownsMapB (unhide OM) (bAl (Below.refl _ _) (.cells #[.string e.t.f0, .string e.t.f1, .slice e.h2.a e.h2.len e.h2.cap, .slice e.h3.a e.h3.len e.h3.cap] 45)))
      have RA := (RowIs.new wr #[.string e.t.f0, .string e.t.f1, .slice e.h2.a e.h2.len e.h2.cap, .slice e.h3.a e.h3.len e.h3.cap] 45)
      have r1A := ((unhide R).keep (bAl (Below.refl _ _) (.cells #[.string e.t.f0, .string e.t.f1, .slice e.h2.a e.h2.len e.h2.cap, .slice e.h3.a e.h3.len e.h3.cap] 45))).at (o := 1) (v := .map (some b2)) rfl
      obtain ⟨au, cu, eu⟩ := own_sl' (unhide O)
      subst eu
      clear hc h1 h2 h3 fe he hmem
      by_cases hkN : k = N
      · have no : Hid (¬ EndsF F N s) := hide (fun g => by
          have g2 := (unhide E).1 g
          rw [hkN, Nat.sub_self] at g2
          exact unhide HE g2)
        have dk : ((k : Int) == (N : Int)) = true := by simp [hkN]
        clear E FE RA hkN
        go_wp2_with (first | (at_lookup; refine wpList_look_km _ kStr rfl _ _ _ rfl _ Try.underlying53 (zeroCL _) b2 _ _ rfl (unhide HM) t rfl ht _ _ (unhide ev) (unhide er) ?_) | (at_len; refine wpList_len_want' _ (by rfl) _ 53 rfl 9 45 Try.underlying53 hvR b2 _ D rfl (unhide OMA) ?_; rw [unhide EN]))
        refine bodyPost_ret (v := .tuple #[_, .bool false]) (by simp [results, Try.results43, go_sem]; rfl) rfl ⟨⟨_, false, rfl, fun h => (by cases h), fun h => absurd h (unhide no)⟩, bAl (unhide B) _⟩
      · have dk : ((k : Int) == (N : Int)) = false := by rw [beq_eq_false_iff_ne]; omega
        have EX : Hid (EndsF F N s ↔ EndsF F (N - (k + 1)) e.t.f1) := hide ((unhide E).trans (by
          obtain ⟨j, hj⟩ : ∃ j, N - k = j + 1 := ⟨N - k - 1, by omega⟩
          rw [hj, show N - (k + 1) = j by omega]
          exact ends_step (unhide fe2) (unhide HE)))
        obtain ⟨W2, hW2⟩ : ∃ W, W = wr.alloc (.cells #[.string e.t.f0, .string e.t.f1, .slice e.h2.a e.h2.len e.h2.cap, .slice e.h3.a e.h3.len e.h3.cap] 45) := ⟨_, rfl⟩
        have r2 := show RowIs W2 wr.heap.size #[.string e.t.f0, .string e.t.f1, .slice e.h2.a e.h2.len e.h2.cap, .slice e.h3.a e.h3.len e.h3.cap] 45 by rw [hW2]; exact RA
        have zx := r2.lt
        have x0 := r2.at (o := 0) (v := .string e.t.f0) rfl
        have x1 := r2.at (o := 1) (v := .string e.t.f1) rfl
        have x2 := r2.at (o := 2) (v := .slice e.h2.a e.h2.len e.h2.cap) rfl
        have x3 := r2.at (o := 3) (v := .slice e.h3.a e.h3.len e.h3.cap) rfl
        have b2' : Below wr.heap.size wr W2 := by rw [hW2]; exact bAl (Below.refl _ _) _
        have O2 := hide (own_keep' (unhide O) b2')
        have B2 := hide (bTr (unhide B) b2')
        have RX := hide ((unhide R).keep b2')
        have R2 := hide r2
        have HW2 := hide hW2.symm
        have nb : Hid (∀ g, (Value.slice au k cu).ownBlock = some g → w.heap.size < g ∧ g < wr.heap.size) := hide (fun g hg => by
          have h1 := (unhide O).lt g hg
          refine ⟨?_, h1.2⟩
          rcases Nat.lt_or_ge w.heap.size g with h2 | h2
          · exact h2
          · have : g = w.heap.size := by omega
            subst this
            have h3 : wr.heap[w.heap.size]? = some (.cells #[.map (some b1), .map (some b2)] 55 (0, 0)) := unhide R
            exact absurd hg (own_not' (unhide O) h3 (fun cur e => by cases e)))
        have FX := hide (fun (v5 : Value) (w5 : World) (o5 : Obj) (h2 : (W2.alloc o5).grownBy w5 (Value.slice au k cu).ownBlock) => show (w5.cell? ⟨wr.heap.size, 0, none⟩ = some (.string e.t.f0) ∧ w5.cell? ⟨wr.heap.size, 1, none⟩ = some (.string e.t.f1) ∧ w5.cell? ⟨wr.heap.size, 2, none⟩ = some (.slice e.h2.a e.h2.len e.h2.cap) ∧ w5.cell? ⟨wr.heap.size, 3, none⟩ = some (.slice e.h3.a e.h3.len e.h3.cap)) ∧ RowIs w5 w.heap.size #[.map (some b1), .map (some b2)] 55 ∧ Below w.heap.size w w5 from by
          have RA := (unhide R2).keep (bAl (Below.refl _ _) o5)
          have R5 := rowGrown RA h2 (fun e => by have := (unhide nb _ e.symm).2; omega)
          have R6 := rowGrown ((unhide RX).keep (bAl (Below.refl _ _) o5)) h2 (fun e => by have := (unhide nb _ e.symm).1; omega)
          exact ⟨⟨R5.at rfl, R5.at rfl, R5.at rfl, R5.at rfl⟩, R6, (bAl (unhide B2) o5).grown h2 (by have := (unhide B2).size; simp; omega) (fun j hj => by have := (unhide nb j hj).1; omega)⟩)
        have SZ2 := unhide SZ
        clear RA hW2 r2 b2' E FE O B R
        go_wp2_with (first | (at_lookup; refine wpList_look_km _ kStr rfl _ _ _ rfl _ Try.underlying53 (zeroCL _) b2 _ _ rfl (unhide HM) t rfl ht _ _ (unhide ev) (unhide er) ?_) | (at_len; refine wpList_len_want' _ (by rfl) _ 53 rfl 9 45 Try.underlying53 hvR b2 _ D rfl (unhide OMA) ?_; rw [unhide EN]))
        rw [unhide HW2]
        go_region_held3 (fun w' => w'.cell? ⟨wr.heap.size, 0, none⟩ = some (.string e.t.f0) ∧ w'.cell? ⟨wr.heap.size, 1, none⟩ = some (.string e.t.f1) ∧ w'.cell? ⟨wr.heap.size, 2, none⟩ = some (.slice e.h2.a e.h2.len e.h2.cap) ∧ w'.cell? ⟨wr.heap.size, 3, none⟩ = some (.slice e.h3.a e.h3.len e.h3.cap))
              (first
                | exact Y5
                | ((refine ⟨cellB (W := W2) ?_ zx x0, cellB (W := W2) ?_ zx x1, cellB (W := W2) ?_ zx x2, cellB (W := W2) ?_ zx x3⟩ <;> (repeat (first | exact Below.refl _ _ | refine Below.drew ?_ | refine bAl ?_ _)))))
              (first
                | (refine step_app' _ (by rfl) (.tmp 28) (.tmp 30) _ (by rfl) w.heap.size 45 i0 _ 4 80 Try.underlying29 hi hz0 hz1 hz2 rfl (by decide) (.slice au k cu) k X (by rfl) ((unhide O2).drew.alloc _) (some ⟨W2.heap.size, 0, none⟩) 1 1 [.string e.t.f0, .string e.t.f1, .slice e.h2.a e.h2.len e.h2.cap, .slice e.h3.a e.h3.len e.h3.cap] (by rfl) (by intro h; cases h) rfl (by intro ad e; cases e; exact cell_new_at' _ _ rfl _ _ _ rfl) (by intro u hu; simp at hu; rcases hu with rfl | rfl | rfl | rfl <;> rfl) (by unfold maxLen; omega) (by omega) (by have := (unhide B2).size; simp; omega) ?_; intro v5 w5 hown5 hgrow5; obtain ⟨Y5, k2, k4⟩ := unhide FX v5 _ (.cells #[.string e.t.f0, .string e.t.f1, .slice e.h2.a e.h2.len e.h2.cap, .slice e.h3.a e.h3.len e.h3.cap] 45) ⟨hgrow5.os, hgrow5.tape, hgrow5.output, hgrow5.size, hgrow5.block⟩; have R5 := hide k2; have B5 := hide k4; have O5 := hide hown5; clear hown5 hgrow5 k2 k4))
        go_wp2_with fail
        refine ⟨⟨k + 1, e.t.f1, _, by omega, rfl, HU, EX, O5, B5, R5⟩, ?_⟩
        obtain ⟨a5, c5, e5⟩ := own_sl' (unhide O5)
        subst e5
        simp [slN]; omega
end Go.Proofs.Ytobmdeoppbjjpaa.V
