/- GReI, GSet, one behind the other. -/
import Derived.Test.YtakjnbdjjeccoaaJ18
import Derived.Test.YtakjnbdjjeccoaaJ15
import Derived.Test.YtakjnbdjjeccoaaJ19
/- impl.ReachOf: the index of a list of nests, as a map. -/
namespace Go.Proofs.Ytakjnbdjjeccoaa
open Go.RowKit Go.Maps

theorem addr_plus (b off k : Nat) : (⟨b, off, none⟩ : Addr).add k = ⟨b, off + k, none⟩ := by
  unfold Addr.add; split <;> simp_all
theorem cell_new_at (W : World) (n : Nat) (hn : n = W.heap.size) (C : Array Value) (t : TypeId) (l : List Value) (hl : l = C.toList) : ∀ j u, l[j]? = some u → (W.alloc (.cells C t)).cell? ((⟨n, 0, none⟩ : Addr).add j) = some u := by
  subst hn hl
  intro j u hu
  rw [addr_plus, Nat.zero_add]
  exact (RowIs.new W C t).at (by rw [← Array.getElem?_toList]; exact hu)
theorem kNest : KeyKind Try.prog 42 encN okKN where
  law := lawKN
  key x hx := key_nest x.1 x.2 hx.1 hx.2
  inv v kl h := by obtain ⟨x, h1, h2⟩ := keyN_all h; exact ⟨x, h2, h1⟩
  inj x y h := encN_inj h
theorem KR.cnt_le {α : Type} {P : Program} {k : TypeId} {enc : α → Value} {w : World} {b r n cnt : Nat} {m : α → Option Value} {done : α → Prop} (h : KR P k enc w b r n m done cnt) : cnt ≤ n := by
  obtain ⟨D, left, ⟨es, clock, since, seen, c0, _, _, h3, _, _, _, h7, _⟩, _⟩ := h
  rw [← h7]
  unfold leftOf
  exact Nat.le_trans Array.size_filter_le h3
theorem KM.drew {α : Type} {P : Program} {k : TypeId} {enc : α → Value} {w : World} {b n : Nat} {m : α → Option Value} (h : KM P k enc w b n m) : KM P k enc w.drew b n m := h.block rfl

/-- What the index's map holds. -/
def ixM (I : Bs × Bs → Option Nat) : Bs × Bs → Option Value := fun p => (I p).map fun (k : Nat) => Value.int .i64 (k : Int)
def updI (I : Bs × Bs → Option Nat) (p : Bs × Bs) (k : Nat) : Bs × Bs → Option Nat := fun q => if q = p then some k else I q
theorem ixM_upd (I : Bs × Bs → Option Nat) (p : Bs × Bs) (k : Nat) : ixM (updI I p k) = updK (ixM I) p (.int .i64 (k : Int)) := by
  funext q
  unfold ixM updI updK
  by_cases h : q = p
  · simp [h]
  · simp [h]
theorem intF {L : Bs → Option Nat} {x : Bs} {v : Value} (h : intM L x = some v) : ∃ k, L x = some k ∧ v = .int .i64 (k : Int) := by
  cases hL : L x with
  | none => simp [intM, hL] at h
  | some k => exact ⟨k, rfl, by simp [intM, hL] at h; exact h.symm⟩
/-- The index of all nodes that are done; of x, what is done of its own. -/
def IxAt (E : Bs → Bs → Prop) (done : Bs → Prop) (x : Bs) (done2 : Bs → Prop) (I : Bs × Bs → Option Nat) : Prop := ∀ a b n, I (a, b) = some n ↔ Dist E a b n ∧ (done a ∨ (a = x ∧ done2 b))
theorem IxAt.put {E : Bs → Bs → Prop} {done : Bs → Prop} {x : Bs} {done2 : Bs → Prop} {I : Bs × Bs → Option Nat} (h : IxAt E done x done2 I) {y : Bs} {k : Nat} (hd : Dist E x y k) : IxAt E done x (fun z => done2 z ∨ z = y) (updI I (x, y) k) := by
  intro a b n
  unfold updI
  by_cases e : (a, b) = (x, y)
  · rw [if_pos e]
    simp only [Prod.mk.injEq] at e
    obtain ⟨rfl, rfl⟩ := e
    constructor
    · intro q; cases q; exact ⟨hd, .inr ⟨rfl, .inr rfl⟩⟩
    · rintro ⟨q, _⟩; rw [q.uniq hd]
  · rw [if_neg e, h a b n]
    constructor
    · rintro ⟨q, h1 | ⟨h1, h2⟩⟩
      · exact ⟨q, .inl h1⟩
      · exact ⟨q, .inr ⟨h1, .inl h2⟩⟩
    · rintro ⟨q, h1 | ⟨h1, h2 | h2⟩⟩
      · exact ⟨q, .inl h1⟩
      · exact ⟨q, .inr ⟨h1, h2⟩⟩
      · exact absurd (by rw [h1, h2]) e

/-- The rows of SortedFunc. -/
theorem celsN_at {ss : List (Bs × Bs)} {i : Nat} (h : i < ss.length) : (celsN ss)[i * 2]? = some (.string ss[i].1) ∧ (celsN ss)[i * 2 + 1]? = some (.string ss[i].2) := by
  have hk : ∀ x, (celN x).length = 2 := fun _ => rfl
  have h0 := flatMap_get hk ss i h 0 (by omega)
  have h1 := flatMap_get hk ss i h 1 (by omega)
  exact ⟨h0, h1⟩

/-- 'm[x]', run. -/
theorem get_run {P : Program} {k : TypeId} {α : Type} {enc : α → Value} {ok : α → Prop} {w : World} (K : KeyKind P k enc ok) {t e : TypeId} (ht : P.underlying t = some (.map k e)) {z : Value} (hz : (zeroValue e).run P w = .ok z w) {b n : Nat} {M : α → Option Value} (hk : KM P k enc w b n M) {y : α} (hy : ok y) {v : Value} (hv : (M y).getD z = v) :
    (Instr.lookup t (.map (some b)) (enc y) false).run P w = .ok v w := by
  obtain ⟨D, hown, hD⟩ := hk
  obtain ⟨kl, hkl⟩ := K.key y hy
  obtain ⟨v', ps, hrun, hv'⟩ := hown.lookup K.law ht hz (zd := .held z) (zp := []) rfl hkl
  obtain ⟨h1, h2⟩ := hD y kl hkl
  have e := kd_atKey h1 h2 hv'
  rw [hv] at e
  subst e
  exact hrun

/-- What ReachOf tells. -/
def PRea (l : List NestT) (r : List ReachT) : Prop := r.Pairwise (fun a b => cfN (a.f0, a.f1) (b.f0, b.f1) < 0) ∧ ∀ x, x ∈ r ↔ ∃ n : Nat, x.f2 = (n : Int) ∧ Dist (EdG l) x.f0 x.f1 n
theorem PRea.of {l : List NestT} {ss : List (Bs × Bs)} {I : Bs × Bs → Option Nat} (h1 : ss.Pairwise fun a b => cfN a b < 0) (h2 : ∀ p, p ∈ ss ↔ (I p).isSome = true) (h3 : ∀ a b n, I (a, b) = some n ↔ Dist (EdG l) a b n) : PRea l (ss.map fun p => (⟨p.1, p.2, ((I p).getD 0 : Nat)⟩ : ReachT)) := by
  refine ⟨by rw [List.pairwise_map]; exact h1, fun x => ?_⟩
  rw [List.mem_map]
  constructor
  · rintro ⟨p, hp, rfl⟩
    obtain ⟨n, hn⟩ := Option.isSome_iff_exists.1 ((h2 p).1 hp)
    exact ⟨n, by simp [hn], (h3 p.1 p.2 n).1 hn⟩
  · rintro ⟨n, hn, hd⟩
    have hI := (h3 _ _ n).2 hd
    refine ⟨(x.f0, x.f1), (h2 _).2 (by rw [hI]; rfl), ?_⟩
    obtain ⟨f0, f1, f2⟩ := x
    simp only at hn hI ⊢
    rw [hI, hn]; rfl
theorem PRea.uniq {l : List NestT} {r s : List ReachT} (h : PRea l r) (k : PRea l s) : r = s :=
  rising_ext (fun a b : ReachT => cfN (a.f0, a.f1) (b.f0, b.f1) < 0) (fun _ => cfN_irr _) (fun _ _ _ => cfN_tr _ _ _) r s h.1 k.1 (fun x => by rw [h.2 x, k.2 x])
theorem flat_len {α β : Type} (xs : List α) (f : α → List β) (n : Nat) (h : ∀ x ∈ xs, (f x).length = n) : (xs.flatMap f).length = xs.length * n := by
  induction xs with
  | nil => simp
  | cons x xs ih =>
    rw [List.flatMap_cons, List.length_append, h x (by simp), ih (fun y hy => h y (by simp [hy])), List.length_cons, Nat.succ_mul, Nat.add_comm]
open Classical in
theorem pairs_le {l : List NestT} {ss : List (Bs × Bs)} (hn : ss.Nodup) (h : ∀ p ∈ ss, GoodL l ∧ (∃ q ∈ l, NestT.f0 q = p.1) ∧ (∃ q ∈ l, NestT.f1 q = p.2)) : ss.length ≤ 40000 := by
  cases ss with
  | nil => simp
  | cons x ss =>
    have hG := (h x (by simp)).1
    have := nodup_le (x :: ss) (l.flatMap fun q => l.map fun r => (q.f0, r.f1)) hn (fun p hp => by
      obtain ⟨_, ⟨q, h1, h2⟩, ⟨r, h3, h4⟩⟩ := h p hp
      exact List.mem_flatMap.2 ⟨q, h1, List.mem_map.2 ⟨r, h3, by rw [h2, h4]⟩⟩)
    rw [flat_len _ _ l.length (fun _ _ => by simp)] at this
    have h2 := Nat.mul_le_mul hG.1 hG.1
    omega
theorem Inn.pair {l : List NestT} {a b : Bs} {n : Nat} (hn : Dist (EdG l) a b n) : GoodL l ∧ (∃ q ∈ l, NestT.f0 q = a) ∧ (∃ q ∈ l, NestT.f1 q = b) := by
  obtain ⟨c, hG, i, hi, h1, _⟩ := dist_first hn
  obtain ⟨c', _, j, hj, _, h2⟩ := dist_last hn
  exact ⟨hG, ⟨l[i], List.getElem_mem hi, h1⟩, ⟨l[j], List.getElem_mem hj, h2⟩⟩

theorem PRea.len {l : List NestT} {r : List ReachT} (h : PRea l r) : r.length ≤ 40000 := by
  have h1 : (r.map fun x => (x.f0, x.f1)).Nodup := by
    unfold List.Nodup
    rw [List.pairwise_map]
    exact h.1.imp (fun {a b} q e => by rw [e] at q; exact cfN_irr _ q)
  have := pairs_le (l := l) h1 (fun p hp => by
    obtain ⟨x, hx, rfl⟩ := List.mem_map.1 hp
    obtain ⟨n, _, hn⟩ := (h.2 x).1 hx
    exact Inn.pair hn)
  simpa using this

set_option maxRecDepth 100000 in
set_option maxHeartbeats 2000000 in
/-- impl.ReachOf up to its map: told by what the rest is asked. -/
theorem iReachOf_any (a : Option Addr) (len cap : Nat) (l : List NestT) (w : World) (hl : len ≤ maxLen) (hs : SlNest w a len l) (hok : ∀ q ∈ l, NestT.Ok q) :
    Calls Try.prog 17 #[.slice a len cap] w fun e w' => (∃ v r, e = .returned v ∧ PRea l r ∧ w'.ownsRow w.heap.size 70 3 v r.length (ReachsV r)) ∧ Below w.heap.size w w' := by
  obtain ⟨i0, hi, hz0, hz1, hz2⟩ := info_parts info_Reach
  have q := hide (nestGraph_any a len cap l w hl hs hok)
  have hmm := @run_makeMap Try.prog
  clear hs hok hl
  go_enter Try.func17, Try.ntmps17
  go_wp2_with fail
  refine (unhide q).mono ?_
  rintro e w1 ⟨⟨bg, es, tab, rfl, hG, hE, hL⟩, hb1⟩
  obtain ⟨E, hEE⟩ : ∃ E : Bs → Bs → Prop, E = fun x y => (x, y) ∈ es := ⟨_, rfl⟩
  have HEd := hide (show ∀ a b n, Dist E a b n ↔ Dist (EdG l) a b n from fun a b n => dist_congr (fun x y => by rw [hEE]; exact hE x y))
  have HE1 := hide (show ∀ x y, E x y ↔ (x, y) ∈ es by rw [hEE]; exact fun _ _ => Iff.rfl)
  have hbg := hG.top.lt
  obtain ⟨W, hW⟩ : ∃ W, W = w1.alloc (.map #[] 0) := ⟨_, rfl⟩
  have g1 : w1.grownBy W none := by rw [hW]; exact World.grownBy_alloc _ _ _
  have B0 := hide (show Below w1.heap.size w1 W by rw [hW]; exact bAl (Below.refl _ _) _)
  have KI := hide (show KM Try.prog 42 encN W w1.heap.size 0 (ixM fun _ => none) by rw [hW]; exact KM.made _ _ _ w1)
  have HG := hide hG
  have HT := hide (hG.grown g1 (fun r h => by cases h)).top
  have HL := hide hL
  have HW := hide hW.symm
  have B1 := hide hb1
  have zW := hide (show w1.heap.size < W.heap.size by rw [hW]; simp)
  clear q hG hE hL hb1 hEE hW g1
  go_wp2_with (first
    | (rw [unhide HW]; clear hmm; at_range; refine wpList_range_km _ kStr rfl _ _ rfl _ Try.underlying60 bg 1000 _ rfl (unhide HT) ?_; intro w0 cnt0 hr0 hg0 hs0)
    | go_in)
  clear HT HW
  go_frame
  go_loopw [17] (fun _ wr => ∃ (done : Bs → Prop) (cnt ni : Nat) (I : Bs × Bs → Option Nat), KR Try.prog 9 Value.string wr bg W.heap.size 1000 (topM tab) done cnt ∧ Hid (KM Try.prog 42 encN wr w1.heap.size ni (ixM I)) ∧ Hid (IxAt E done ⟨#[]⟩ (fun _ => False) I) ∧ ni + 1000 * cnt ≤ 1000000 ∧ Hid (Below w1.heap.size w1 wr)) (fun _ wr => wr.rangeLeft bg W.heap.size)
  case atStart => exact ⟨_, cnt0, 0, _, hr0, hide ((unhide KI).kept hg0 (by simp)), hide (fun a b n => ⟨(fun h => by cases h), (fun h => by rcases h.2 with h | h; exact h.elim; exact h.2.elim)⟩), by have := hr0.cnt_le; omega, hide ((unhide B0).trans (Below.grown (Below.refl _ _) hg0 (Nat.le_of_lt (unhide zW)) (fun _ h => by cases h)))⟩
  case round =>
    clear hr0 hg0 hs0 KI B0
    obtain ⟨done, cnt, ni, I, hr, hI, hX, hni, hB⟩ := hrel
    go_wp2_with (first
      | (at_next; refine wpList_next_km _ kStr rfl _ rfl bg W.heap.size 1000 _ _ _ rfl hr ?_ ?_)
      | go_in)
    · intro hd
      have HI := hide (show ∀ a b n, I (a, b) = some n ↔ Dist (EdG l) a b n from fun a b n => by
        rw [unhide hX a b n, ← unhide HEd a b n]
        refine ⟨fun h => h.1, fun h => ⟨h, .inl ?_⟩⟩
        obtain ⟨c, hc⟩ := dist_first h
        have hm := (unhide HE1 a c).1 hc
        refine hd a ((unhide HG).ok a c hm).1 ?_
        have := ((unhide HG).has a).2 ⟨c, hm⟩
        unfold topM; simpa using this)
      have ZI := hide (show ∀ p, (I p).isSome = true → okKN p from fun p hp => by
        obtain ⟨n, hn⟩ := Option.isSome_iff_exists.1 hp
        have hdd := (unhide HI p.1 p.2 n).1 hn
        obtain ⟨c, hc⟩ := dist_first hdd
        obtain ⟨c', hc'⟩ := dist_last hdd
        have h1 := hc.ok.1
        have h2 := hc'.ok.2
        exact ⟨by unfold maxLen; omega, by unfold maxLen; omega⟩)
      have BW := hide (bTr (unhide B1) (unhide hB))
      have hbi := (unhide hI).lt
      obtain ⟨D, hown, hKD⟩ := unhide hI
      have hsz := hown.size_le
      have qs := hide (sortedFuncN w1.heap.size ni D wr hown (by omega))
      have qk := hide (fun W => keysOfN (some w1.heap.size) W)
      have KS := hide (show ∀ ss, SrtN D ss → (∀ p, p ∈ ss ↔ (I p).isSome = true) ∧ ss.length ≤ 1000000 from fun ss hss => by
        have hm : ∀ p, p ∈ ss ↔ (I p).isSome = true := fun p => by
          rw [hss.keys.2 p]
          have ei : (ixM I p).isSome = (I p).isSome := by unfold ixM; simp
          constructor
          · rintro ⟨kl, h1, h2⟩
            rw [← ei, ← (hKD p kl h1).1]; exact h2
          · intro hp
            obtain ⟨kl, hkl⟩ := kNest.key p (unhide ZI p hp)
            exact ⟨kl, hkl, by rw [(hKD p kl hkl).1, ei]; exact hp⟩
        refine ⟨hm, ?_⟩
        have h9 := pairs_le (l := l) hss.keys.1 (fun p hp => by
          obtain ⟨n, hn⟩ := Option.isSome_iff_exists.1 ((hm p).1 hp)
          exact Inn.pair ((unhide HI p.1 p.2 n).1 hn))
        omega)
      clear hd hX hr hown hKD hsz
      go_wp2_with fail
      refine (unhide qk _).mono ?_
      rintro e w2 ⟨rfl, hw2⟩
      subst hw2
      go_wp2_with fail
      refine (unhide qs).mono ?_
      rintro e w3 ⟨v, ss, rfl, hss, hrow, hb3⟩
      obtain ⟨hms, hsl⟩ := unhide KS ss hss
      have HMS := hide hms
      have HRS := hide hss.ris
      have b2 : Below wr.heap.size wr w3 := bTr (bAl (Below.refl _ _) _) hb3
      have B3 := hide (bTr (unhide BW) b2)
      have I3 := hide ((unhide hI).keepB b2 hbi)
      have S3 := hide (own_base hrow (show w.heap.size ≤ _ by have := (unhide BW).size; simp; omega))
      obtain ⟨_, aS, cS, rfl⟩ := own_slLen hrow
      clear qk qs hss hrow hb3 KS hI hms b2
      go_wp2_with fail
      go_loopw [8, 38] (fun v i wx => ∃ k : Nat, k ≤ ss.length ∧ i = .int .i64 k ∧ Hid (wx.ownsRow w.heap.size 70 3 v k (ReachsV ((ss.take k).map fun p => (⟨p.1, p.2, ((I p).getD 0 : Nat)⟩ : ReachT)))) ∧ Hid (wx.ownsRow w.heap.size 42 2 (.slice aS ss.length cS) ss.length (celsN ss)) ∧ Hid (KM Try.prog 42 encN wx w1.heap.size ni (ixM I)) ∧ Hid (Below w.heap.size w wx)) (fun _ i _ => ss.length - (Go.RowKit.intOf i).toNat)
      case atStart => exact ⟨0, Nat.zero_le _, rfl, hide (World.ownsRow_nil _ _ _ _), S3, I3, B3⟩
      case round =>
        clear S3 I3 B3
        obtain ⟨k, hk, rfl, hO, hS, hI, hB⟩ := hrel
        by_cases hlt : k < ss.length
        · obtain ⟨gS, cS', eS, _⟩ := own_some (unhide hS) (by omega)
          cases eS
          obtain ⟨e0, e1⟩ := celsN_at hlt
          have c0 : wr.cell? ⟨gS, k * 2, none⟩ = some (.string ss[k].1) := by rw [(unhide hS).cellAt (k * 2) (by omega)]; exact e0
          have c1 : wr.cell? ⟨gS, k * 2 + 1, none⟩ = some (.string ss[k].2) := by rw [(unhide hS).cellAt (k * 2 + 1) (by omega)]; exact e1
          have zS : gS < wr.heap.size := ((unhide hS).lt gS rfl).2
          have hsome := (unhide HMS ss[k]).1 (List.getElem_mem hlt)
          obtain ⟨n, hn⟩ := Option.isSome_iff_exists.1 hsome
          have hokp := hide (unhide ZI ss[k] hsome)
          have eL := hide (show (ixM I ss[k]).getD (.int .i64 0) = .int .i64 (n : Int) by simp [ixM, hn])
          have eT := hide (show ReachsV ((ss.take (k + 1)).map fun p => (⟨p.1, p.2, ((I p).getD 0 : Nat)⟩ : ReachT)) = ReachsV ((ss.take k).map fun p => (⟨p.1, p.2, ((I p).getD 0 : Nat)⟩ : ReachT)) ++ [.string ss[k].1, .string ss[k].2, .int .i64 (n : Int)] by
            rw [List.take_succ_eq_append_getElem hlt, List.map_append, List.map_singleton, ReachsV_snoc, hn]; rfl)
          obtain ⟨W2, hW2⟩ : ∃ W2, W2 = wr.alloc (.cells #[.string ss[k].1, .string ss[k].2] 42) := ⟨_, rfl⟩
          have b2 : Below wr.heap.size wr W2 := by rw [hW2]; exact bAl (Below.refl _ _) _
          have r2 := show RowIs W2 wr.heap.size #[.string ss[k].1, .string ss[k].2] 42 by rw [hW2]; exact RowIs.new _ _ _
          have x0 := r2.at (o := 0) (v := .string ss[k].1) rfl
          have x1 := r2.at (o := 1) (v := .string ss[k].2) rfl
          have zx := r2.lt
          have R2 := hide r2
          have O2 := hide (own_keep (unhide hO) b2)
          have S2 := hide (own_keep (unhide hS) b2)
          have I2 := hide ((unhide hI).keepB b2 (unhide hI).lt)
          have B2 := hide (bTr (unhide hB) b2)
          have HW2 := hide hW2.symm
          clear e0 e1 hsome hn hO hS hI hB b2 r2 hW2
          generalize ReachsV ((ss.take k).map fun p => (⟨p.1, p.2, ((I p).getD 0 : Nat)⟩ : ReachT)) = X at O2 eT
          generalize ss[k] = A at c0 c1 hokp eL eT x0 x1 HW2 R2
          obtain ⟨p1, p2⟩ := A
          simp only at c0 c1 x0 x1 eT HW2 R2
          have FX := hide (fun (v5 : Value) (w5 : World) (o5 : Obj) (h1 : w5.ownsRow w.heap.size 70 3 v5 (k + 1) (X ++ [.string p1, .string p2, .int .i64 (n : Int)])) (h2 : (W2.alloc o5).grownBy w5 u8.ownBlock) => show (w5.cell? ⟨wr.heap.size, 0, none⟩ = some (.string p1) ∧ w5.cell? ⟨wr.heap.size, 1, none⟩ = some (.string p2)) ∧ w5.ownsRow w.heap.size 42 2 (.slice (some ⟨gS, 0, none⟩) ss.length cS) ss.length (celsN ss) ∧ KM Try.prog 42 encN w5 w1.heap.size ni (ixM I) ∧ Below w.heap.size w w5 from by
            have ha := World.grownBy_alloc W2 o5 none
            have RA := (unhide R2).keep (bAl (Below.refl _ _) o5)
            have OA := (unhide O2).alloc o5
            have hb9 : W2.heap[wr.heap.size]? = some (.cells #[.string p1, .string p2] 42 (0, 0)) := unhide R2
            have R5 := row_grown RA h2 (fun e => own_not (unhide O2) hb9 (fun cur e2 => by cases e2) e.symm)
            refine ⟨⟨R5.at rfl, R5.at rfl⟩, ((unhide S2).alloc o5).kept h2 (own_ne_type ((unhide S2).alloc o5) OA (by decide)), ((unhide I2).kept ha (by simp)).kept h2 (fun e => (unhide I2).own_ne (unhide O2) e.symm), ?_⟩
            exact below_append (unhide B2) (Nat.le_refl _) (unhide O2) h2)
          have hlk : (Instr.lookup 62 (.map (some w1.heap.size)) (.agg #[.string p1, .string p2]) false).run Try.prog W2.drew = .ok (.int .i64 (n : Int)) W2.drew := get_run kNest (y := (p1, p2)) Try.underlying62 (zeroInt _) (unhide I2).drew (unhide hokp) (unhide eL)
          go_wp2_with fail
          rw [unhide HW2]
          go_region_held3 (fun w' => w'.cell? ⟨wr.heap.size, 0, none⟩ = some (.string p1) ∧ w'.cell? ⟨wr.heap.size, 1, none⟩ = some (.string p2))
              (first
                | exact ⟨y0, y1⟩
                | ((refine ⟨cellB (W := W2) ?_ zx x0, cellB (W := W2) ?_ zx x1⟩ <;> (repeat (first | exact Below.refl _ _ | refine Below.drew ?_ | refine bAl ?_ _)))))
              (first
                | (refine step_app _ (by rfl) (.tmp 42) (.tmp 51) _ (by rfl) w.heap.size 70 i0 _ 3 40 Try.underlying29 hi hz0 hz1 hz2 rfl (by decide) u8 k X (by rfl) ((unhide O2).drew.alloc _) (some ⟨W2.heap.size, 0, none⟩) 1 1 [.string p1, .string p2, .int .i64 (n : Int)] (by rfl) (by intro h; cases h) rfl (by intro ad e; cases e; exact cell_new_at _ _ rfl _ _ _ rfl) (by intro u hu; simp at hu; rcases hu with rfl | rfl | rfl <;> rfl) (by unfold maxLen; omega) (by omega) (by have := (unhide B2).size; simp; omega) ?_; intro v5 w5 hown5 hgrow5; obtain ⟨⟨y0, y1⟩, k2, k3, k4⟩ := unhide FX _ _ (.cells #[.string p1, .string p2, .int .i64 (n : Int)] 70) hown5 ⟨hgrow5.os, hgrow5.tape, hgrow5.output, hgrow5.size, hgrow5.block⟩; have S5 := hide k2; have I5 := hide k3; have B5 := hide k4; have O5 := hide hown5; clear hown5 hgrow5 k2 k3 k4))
          go_wp2_with fail
          exact ⟨⟨k + 1, by omega, by go_num, hide (by rw [unhide eT]; exact unhide O5), S5, I5, B5⟩, by simp [Go.RowKit.intOf]; omega⟩
        · obtain rfl : k = ss.length := by omega
          have FIN := hide (show PRea l (ss.map fun p => (⟨p.1, p.2, ((I p).getD 0 : Nat)⟩ : ReachT)) ∧ wr.ownsRow w.heap.size 70 3 u8 (ss.map fun p => (⟨p.1, p.2, ((I p).getD 0 : Nat)⟩ : ReachT)).length (ReachsV (ss.map fun p => (⟨p.1, p.2, ((I p).getD 0 : Nat)⟩ : ReachT))) from ⟨PRea.of (unhide HRS) (unhide HMS) (unhide HI), by
            have := unhide hO
            rw [List.take_length] at this
            rw [List.length_map]; exact this⟩)
          clear hO hS hI
          go_wp2_with fail
          go_ret
          exact ⟨⟨_, _, rfl, unhide FIN⟩, unhide hB⟩
    · intro x v w2 cnt1 hx hM hnd hr1 hlt hg1 hs1 hen
      have B2 := hide ((unhide hB).grown hg1 (unhide hB).size (fun k h => by cases h; exact Nat.le_of_lt (unhide zW)))
      have I2 := hide ((unhide hI).kept hg1 (fun e => by have := unhide zW; simp at e; omega))
      have qs := hide (steps_any w.heap.size bg 1000 es tab x w2 ((unhide HG).keepB (unhide B2) (Nat.le_refl _)) (unhide HL) hx)
      have hc0 := hide hr.left
      have HND := hide hnd
      have HX := hide hx
      have R1 := hide hr1
      clear hM hnd hg1 hI hB hr hr1 hs1
      go_wp2_with fail
      refine (unhide qs).mono ?_
      rintro e w3 ⟨⟨bl, L, rfl, hbl, hK, hD⟩, hb3⟩
      have HK := hide hK
      have HD := hide (show ∀ b k, L b = some k ↔ Dist E x b k from fun b k => by rw [hD b k]; exact dist_congr (fun p q => (unhide HE1 p q).symm))
      have z12 := (unhide B2).size
      have I3 := hide ((unhide I2).keepB hb3 (unhide I2).lt)
      have R3 := hide ((unhide R1).block (hb3.block bg (unhide R1).owns.lt) (hb3.block _ (unhide R1).lt))
      have B3 := hide (bTr (unhide B2) hb3)
      have hblI : w1.heap.size < bl := Nat.lt_of_lt_of_le (unhide I2).lt hbl
      have zr3 := hide (show W.heap.size < w3.heap.size ∧ W.heap.size < bl from ⟨(unhide R3).lt, Nat.lt_of_lt_of_le (unhide R1).lt hbl⟩)
      clear qs hK hD hb3 I2 R1 B2 hen
      go_wp2_with (first
        | (at_range; refine wpList_range_km _ kStr rfl _ _ rfl _ Try.underlying63 bl 1000 _ rfl (unhide HK) ?_; intro w4 cnt4 hr4 hg4 hs4)
        | go_in)
      go_frame
      obtain ⟨r2, hr2e⟩ : ∃ r, r = w3.heap.size := ⟨_, rfl⟩
      rw [← hr2e] at hr4 ⊢
      have RA := hide (show bg < r2 ∧ W.heap.size < r2 ∧ w1.heap.size < r2 by have := (unhide B3).size; have := unhide zr3; have := unhide zW; omega)
      have KA := hide ((unhide R3).kept hg4 (by simp) (by simp))
      have IA := hide ((unhide I3).kept hg4 (by simp))
      have BA := hide ((unhide B3).trans (Below.grown (Below.refl _ _) hg4 (unhide B3).size (fun _ h => by cases h)))
      have XA := hide (show IxAt E done x (fun _ => False) I from fun a b n => by
        rw [unhide hX a b n]
        constructor
        · rintro ⟨h1, h2 | ⟨_, h2⟩⟩
          · exact ⟨h1, .inl h2⟩
          · exact h2.elim
        · rintro ⟨h1, h2 | ⟨_, h2⟩⟩
          · exact ⟨h1, .inl h2⟩
          · exact h2.elim)
      have hc4 := hr4.cnt_le
      clear hg4 hs4 hr2e R3 I3 B3 HK zr3 hX
      go_loopw [25] (fun _ wx => ∃ (done2 : Bs → Prop) (cnt2 ni : Nat) (I : Bs × Bs → Option Nat), KR Try.prog 9 Value.string wx bl r2 1000 (intM L) done2 cnt2 ∧ Hid (KR Try.prog 9 Value.string wx bg W.heap.size 1000 (topM tab) (fun y => done y ∨ y = x) cnt1) ∧ Hid (KM Try.prog 42 encN wx w1.heap.size ni (ixM I)) ∧ Hid (IxAt E done x done2 I) ∧ ni + cnt2 + 1000 * cnt1 ≤ 1000000 ∧ Hid (Below w1.heap.size w1 wx)) (fun _ wx => wx.rangeLeft bl r2)
      case atStart => exact ⟨_, cnt4, ni, I, hr4, KA, IA, XA, by omega, BA⟩
      case round =>
        clear hr4 KA IA BA XA hni
        obtain ⟨done2, cnt2, ni, I, hr, hK1, hI, hX, hni, hB⟩ := hrel
        go_wp2_with (first
          | (at_next; refine wpList_next_km _ kStr rfl _ rfl bl r2 1000 _ _ _ rfl hr ?_ ?_)
          | go_in)
        · intro hd
          have X2 := hide (show IxAt E (fun y => done y ∨ y = x) ⟨#[]⟩ (fun _ => False) I from fun a b n => by
            rw [unhide hX a b n]
            constructor
            · rintro ⟨h1, h2 | ⟨h2, _⟩⟩
              · exact ⟨h1, .inl (.inl h2)⟩
              · exact ⟨h1, .inl (.inr h2)⟩
            · rintro ⟨h1, (h2 | rfl) | ⟨_, h2⟩⟩
              · exact ⟨h1, .inl h2⟩
              · refine ⟨h1, .inr ⟨rfl, hd b ?_ ?_⟩⟩
                · obtain ⟨c, hc⟩ := dist_last h1
                  exact ((unhide HG).ok c b ((unhide HE1 c b).1 hc)).2
                · rw [intM_isSome, (unhide HD b n).2 h1]; rfl
              · exact h2.elim)
          clear hd hX hr
          go_wp2_with fail
          exact ⟨⟨_, cnt1, ni, I, unhide hK1, hI, X2, by omega, hB⟩, by rw [(unhide hK1).left, unhide hc0]; exact hlt⟩
        · intro y v w5 cnt5 hy hM hnd2 hr5 hlt5 hg5 hs5 hen5
          obtain ⟨k, hk, rfl⟩ := intF hM
          have hdist := hide ((unhide HD y k).1 hk)
          have I5 := hide ((unhide hI).kept hg5 (fun e => by have := unhide RA; cases e; omega))
          have K5 := hide ((unhide hK1).kept hg5 (fun e => by have := unhide RA; cases e; omega) (fun e => by have := unhide RA; cases e; omega))
          have B5 := hide ((unhide hB).grown hg5 (unhide hB).size (fun q h => by cases h; exact Nat.le_of_lt (unhide RA).2.2))
          have X5 := hide ((unhide hX).put (unhide hdist))
          have hcl := hide hr.left
          have HY := hide hy
          have eI := hide (ixM_upd I (x, y) k).symm
          clear hM hnd2 hg5 hs5 hr hK1 hI hX hB hk hdist hy
          go_wp2_with (at_mapUpdate; refine wpList_put_km _ kNest rfl _ _ _ _ rfl _ Try.underlying62 w1.heap.size ni _ rfl (unhide I5) (by unfold maxLen; omega) (x, y) (.int .i64 (k : Int)) rfl rfl ⟨unhide HX, unhide HY⟩ ?_; intro w6 h61 h62 h63; rw [unhide eI] at h61; have I6 := hide h61; have K6 := hide ((unhide K5).kept h62 (fun e => by cases e; omega) (fun e => by have := unhide zW; simp at e; omega)); have R6 := hr5.kept h62 (fun e => by cases e; omega) (fun e => by have := unhide RA; cases e; omega); have B6 := hide ((unhide B5).grown h62 (unhide B5).size (fun q h => by cases h; exact Nat.le_refl _)); clear h61 h62 h63)
          simp only [Act.put]
          go_big_round
          exact ⟨⟨_, cnt5, ni + 1, _, R6, K6, I6, X5, by omega, B6⟩, by rw [R6.left, unhide hcl]; exact hlt5⟩
end Go.Proofs.Ytakjnbdjjeccoaa
/- Sets of nests: impl.setOf, add, toldNests. -/
namespace Go.Proofs.Ytakjnbdjjeccoaa
open Go.RowKit Go.Maps

abbrev prN (x : NestT) : Bs × Bs := (x.f0, x.f1)
/-- What the map of a set of nests holds. -/
noncomputable def seM (S : Bs × Bs → Prop) : Bs × Bs → Option Value := fun p => @ite _ (S p) (Classical.propDecidable _) (some (.agg #[])) none
theorem seM_isSome {S : Bs × Bs → Prop} {p : Bs × Bs} : (seM S p).isSome = true ↔ S p := by
  unfold seM
  by_cases h : S p
  · rw [if_pos h]; simp [h]
  · rw [if_neg h]; simp [h]
theorem seM_put (S : Bs × Bs → Prop) (x : Bs × Bs) : updK (seM S) x (.agg #[]) = seM (fun p => S p ∨ p = x) := by
  funext p
  unfold updK seM
  by_cases h : p = x
  · rw [if_pos h, if_pos (.inr h)]
  · rw [if_neg h]
    by_cases k : S p
    · rw [if_pos k, if_pos (.inl k)]
    · rw [if_neg k, if_neg (fun q => q.elim k h)]
theorem seM_congr {S T : Bs × Bs → Prop} (h : ∀ p, S p ↔ T p) : seM S = seM T := by
  have : S = T := by funext p; exact propext (h p)
  rw [this]

set_option maxHeartbeats 400000 in
theorem addN_any (b n : Nat) (S : Bs × Bs → Prop) (x : Bs × Bs) (w : World) (hm : KM Try.prog 42 encN w b n (seM S)) (hn : n < maxLen) (hx : okKN x) :
    Calls Try.prog 61 #[.map (some b), .agg #[.string x.1, .string x.2]] w fun e w' => e = .returned (.tuple #[]) ∧ KM Try.prog 42 encN w' b (n + 1) (seM fun p => S p ∨ p = x) ∧ w.grownBy w' (some b) := by
  obtain ⟨W, hW⟩ : ∃ W, W = w.alloc (.cells #[.string x.1, .string x.2] 42) := ⟨_, rfl⟩
  have HM := hide (show KM Try.prog 42 encN W b n (seM S) by rw [hW]; exact hm.kept (World.grownBy_alloc _ _ none) (by simp))
  have g0 := hide (show w.grownBy W (some b) by rw [hW]; exact World.grownBy_alloc _ _ _)
  have HW := hide hW.symm
  have eM := hide (seM_put S x)
  clear hm hW
  go_enter Try.func61, Try.ntmps61
  go_wp2_with (at_mapUpdate; rw [unhide HW]; refine wpList_put_km _ kNest rfl _ _ _ _ rfl _ Try.underlying78 b n _ rfl (unhide HM) hn x (.agg #[]) rfl rfl hx ?_; intro w1 h1 h2 h3; rw [unhide eM] at h1)
  go_end0
  exact ⟨rfl, h1, (unhide g0).trans h2⟩

/-- The first k nests. -/
def SetK (l : List NestT) (k : Nat) : Bs × Bs → Prop := fun p => ∃ i, ∃ h : i < l.length, i < k ∧ (l[i].f0, l[i].f1) = p
theorem SetK.step {l : List NestT} {k : Nat} (hk : k < l.length) (p : Bs × Bs) : (SetK l k p ∨ p = (l[k].f0, l[k].f1)) ↔ SetK l (k + 1) p := by
  constructor
  · rintro (⟨i, hi, h1, h2⟩ | h)
    · exact ⟨i, hi, by omega, h2⟩
    · exact ⟨k, hk, by omega, h.symm⟩
  · rintro ⟨i, hi, h1, h2⟩
    by_cases e : i = k
    · subst e; exact .inr h2.symm
    · exact .inl ⟨i, hi, by omega, h2⟩
/-- The pairs of a list. -/
def SetL (l : List NestT) : Bs × Bs → Prop := fun p => ∃ x ∈ l, (NestT.f0 x, NestT.f1 x) = p
theorem SetK.all {l : List NestT} {k : Nat} (hk : k = l.length) (p : Bs × Bs) : SetK l k p ↔ SetL l p := by
  subst hk
  constructor
  · rintro ⟨i, hi, _, h⟩; exact ⟨l[i], List.getElem_mem hi, h⟩
  · rintro ⟨x, hx, h⟩
    obtain ⟨i, hi, rfl⟩ := List.getElem_of_mem hx
    exact ⟨i, hi, hi, h⟩

set_option maxRecDepth 100000 in
set_option maxHeartbeats 1000000 in
theorem setOf_any (a : Option Addr) (len cap : Nat) (l : List NestT) (w : World) (hl : len ≤ 200) (hs : SlNest w a len l) (hok : ∀ q ∈ l, NestT.Ok q) :
    Calls Try.prog 60 #[.slice a len cap] w fun e w' => (∃ b, e = .returned (.map (some b)) ∧ w.heap.size ≤ b ∧ KM Try.prog 42 encN w' b 200 (seM (SetL l))) ∧ Below w.heap.size w w' := by
  have HS := hide hs
  have HO := hide hok
  have HL := hide hs.1
  obtain ⟨W, hW⟩ : ∃ W, W = w.alloc (.map #[] 0) := ⟨_, rfl⟩
  have K0 := hide (show KM Try.prog 42 encN W w.heap.size 0 (seM (SetK l 0)) from by
    have e : seM (SetK l 0) = fun _ => none := by
      funext p; unfold seM; rw [if_neg (by rintro ⟨_, _, h, _⟩; omega)]
    rw [e, hW]; exact KM.made _ _ _ w)
  have B0 := hide (show Below w.heap.size w W by rw [hW]; exact bAl (Below.refl _ _) _)
  have HW := hide hW.symm
  have hmm := @run_makeMap Try.prog
  clear hs hok hW
  go_enter Try.func60, Try.ntmps60
  go_wp2_with fail
  rw [unhide HW]
  go_loopw [9] (fun i wr => ∃ k : Nat, k ≤ len ∧ i = .int .i64 k ∧ Hid (KM Try.prog 42 encN wr w.heap.size k (seM (SetK l k))) ∧ Hid (Below w.heap.size w wr)) (fun i _ => len - (Go.RowKit.intOf i).toNat)
  case atStart => exact ⟨0, Nat.zero_le _, rfl, K0, B0⟩
  case round =>
    clear K0 B0 HW hmm
    obtain ⟨k, hk, rfl, hK, hB⟩ := hrel
    by_cases hlt : k < len
    · have hk' : k < l.length := by rw [← unhide HL]; exact hlt
      obtain ⟨b, off, rfl, hrow⟩ := ((unhide HS).keep (unhide hB)).at hlt
      have c0 := hrow.c0 k hk'
      have c1 := hrow.c1 k hk'
      have zk := hrow.z
      have ho := unhide HO _ (List.getElem_mem hk')
      obtain ⟨W2, hW2⟩ : ∃ W, W = wr.alloc (.cells #[.string (l[k]).f0, .string (l[k]).f1] 42) := ⟨_, rfl⟩
      have K2 := (unhide hK).kept (show wr.grownBy W2 none by rw [hW2]; exact World.grownBy_alloc _ _ _) (by simp)
      have B2 := hide (show Below w.heap.size w W2 by rw [hW2]; exact bAl (unhide hB) _)
      have HW2 := hide hW2.symm
      have qa := hide (addN_any w.heap.size k (SetK l k) ((l[k]).f0, (l[k]).f1) W2 K2 (by unfold maxLen; omega) ⟨ho.o0, ho.o1⟩)
      have eS := hide (seM_congr (SetK.step hk'))
      rw [unhide eS] at qa
      clear hrow ho hW2 K2 hK hB eS
      generalize l[k] = A at c0 c1 qa HW2
      simp only at qa
      go_wp2_with fail
      rw [unhide HW2]
      refine (unhide qa).mono ?_
      rintro e w3 ⟨rfl, h1, h2⟩
      have K3 := hide h1
      have B3 := hide ((unhide B2).grown h2 (unhide B2).size (fun q h => by cases h; exact Nat.le_refl _))
      clear h1 h2 qa HW2 B2
      go_wp2_with fail
      exact ⟨⟨k + 1, by omega, by go_num, K3, B3⟩, by simp [Go.RowKit.intOf]; omega⟩
    · have ek : k = l.length := by rw [← unhide HL]; omega
      have FIN := hide (show KM Try.prog 42 encN wr w.heap.size 200 (seM (SetL l)) by rw [← seM_congr (SetK.all ek)]; exact (unhide hK).more (by omega))
      clear hK ek
      go_wp2_with fail
      go_ret
      exact ⟨⟨_, rfl, Nat.le_refl _, unhide FIN⟩, unhide hB⟩

/-- How many entries a set's map has, and its keys. -/
theorem keys_list : ∀ (es : List (Lit × DataW Value)), (∀ p ∈ es, ∃ x, keyOf Try.prog 42 (encN x) = some p.1) → es.Pairwise (fun p q => p.1 ≠ q.1) → ∃ ss : List (Bs × Bs), ss.length = es.length ∧ ss.Nodup ∧ ∀ x, x ∈ ss ↔ ∃ kl, keyOf Try.prog 42 (encN x) = some kl ∧ ∃ p ∈ es, p.1 = kl
  | [], _, _ => ⟨[], rfl, List.nodup_nil, fun x => by simp⟩
  | p :: es, h, hp => by
    rw [List.pairwise_cons] at hp
    obtain ⟨ss, h1, h2, h3⟩ := keys_list es (fun q hq => h q (by simp [hq])) hp.2
    obtain ⟨x, hx⟩ := h p (by simp)
    refine ⟨x :: ss, by simp [h1], List.nodup_cons.2 ⟨fun hm => ?_, h2⟩, fun y => ?_⟩
    · obtain ⟨kl, e1, q, hq, e2⟩ := (h3 x).1 hm
      rw [hx] at e1
      cases e1
      exact hp.1 q hq e2.symm
    · rw [List.mem_cons, h3 y]
      constructor
      · rintro (rfl | ⟨kl, e1, q, hq, e2⟩)
        · exact ⟨p.1, hx, p, by simp, rfl⟩
        · exact ⟨kl, e1, q, by simp [hq], e2⟩
      · rintro ⟨kl, e1, q, hq, e2⟩
        rcases List.mem_cons.1 hq with rfl | hq
        · subst e2
          exact .inl (encN_inj (lawKN.inj e1 hx))
        · exact .inr ⟨kl, e1, q, hq, e2⟩
theorem size_keys {w : World} {b n : Nat} {D : DataW Value} (hown : w.ownsMap Try.prog 42 hvR b n D) : ∃ ss : List (Bs × Bs), ss.length = Maps.size D ∧ KeysN D ss := by
  obtain ⟨es, hD, hpw, hkl⟩ := hown.entries lawKN
  obtain ⟨es', hD', hko⟩ := hown.keysOf
  obtain rfl : es = es' := by rw [hD] at hD'; simpa using hD'
  subst hD
  obtain ⟨ss, h1, h2, h3⟩ := keys_list es (fun p hp => by
    obtain ⟨v, hv⟩ := hko p hp
    obtain ⟨x, _, rfl⟩ := keyN_all hv
    exact ⟨x, hv⟩) hpw
  refine ⟨ss, h1, h2, fun x => ?_⟩
  rw [h3 x]
  constructor
  · rintro ⟨kl, e1, p, hp, e2⟩
    refine ⟨kl, e1, ?_⟩
    rw [has_eq, List.any_eq_true]
    exact ⟨p, hp, by rw [e2]; exact WideAt.sameKey_self (lawKN.key e1)⟩
  · rintro ⟨kl, e1, h⟩
    rw [has_eq, List.any_eq_true] at h
    obtain ⟨p, hp, hs⟩ := h
    refine ⟨kl, e1, p, hp, ?_⟩
    by_cases e : p.1 = kl
    · exact e
    · rw [Maps.sameKey_ne e] at hs; cases hs
end Go.Proofs.Ytakjnbdjjeccoaa
