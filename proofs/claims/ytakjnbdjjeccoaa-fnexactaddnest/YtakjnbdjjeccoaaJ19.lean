/- QApp, GRg, one behind the other. -/
import Derived.Test.YtakjnbdjjeccoaaJ0
import Derived.Laws.AppendOwn
import Derived.Laws.OwnMore
import Derived.Deep.AppendLies
import Derived.Test.YtakjnbdjjeccoaaGSor
/- append at a step of a region that draws its order: whatever is appended, nil and nothing too. -/
namespace Go.Proofs.Ytakjnbdjjeccoaa
open Go.RowKit

theorem wp_app {P : Program} (w : World) {o : Oper} {a : Act} {K : Act → World → Prop} {Q : Exit → Act → World → Prop} (s x : Operand) (t : TypeId)
    (ho : o.op = .call { callee := .builtin .append, args := #[s, x], argTypes := #[t, t] })
    (base : Nat) (e : TypeId) (i : TypeInfo) (z : Value) (size bytes : Nat) (ht : P.underlying t = some (.slice e)) (hi : P.info? e = some i) (hz : i.zero = some z)
    (hsize : i.size = size) (hby : i.bytes = bytes) (hzs : z.cells.size = size) (hsz : 0 < size)
    (v : Value) (n : Nat) (xs : List Value) (hs : a.eval s = v) (hown : w.ownsRow base e size v n xs)
    (ao : Option Addr) (m c : Nat) (news : List Value) (hx : a.eval x = .slice ao m c) (hao : ao = none → m = 0 ∧ c = 0) (hl : news.length = m * size) (hnews : ∀ ad, ao = some ad → ∀ j u, news[j]? = some u → w.cell? (ad.add j) = some u) (h1 : ∀ u ∈ news, u.oneCell' = true)
    (h63 : n + m ≤ maxLen) (hbytes : (n + m) * bytes ≤ 140737488355328) (hbase : base ≤ w.heap.size)
    (h : ∀ v' w', w'.ownsRow base e size v' (n + m) (xs ++ news) → w.grownBy w' v.ownBlock → K (a.put o.dst v') w') : o.wp P a w K Q := by
  cases ao with
  | some ad => exact wp_append_own w s x t ho base e i z size bytes ht hi hz hsize hby hzs hsz v n xs hs hown ad m c news hx hl (hnews ad rfl) h1 h63 hbytes hbase fun v' w' h2 h3 _ => h v' w' h2 h3
  | none =>
    obtain ⟨rfl, rfl⟩ := hao rfl
    have hn : news = [] := List.eq_nil_of_length_eq_zero (by simpa using hl)
    subst hn
    have hr := run_append_owned_none (P := P) (w := w) base t o.type e i size ht hi v n xs hown
    have h2 : w.ownsRow base e size v (n + 0) (xs ++ []) := by simpa using hown
    have := h v w h2 ⟨rfl, rfl, rfl, Nat.le_refl _, fun _ _ _ => rfl⟩
    unfold Oper.wp execOp
    simp only [ho, resolve, invoke, builtin, Sem.run_bind, Sem.run_pure, Result.andThen_ok, List.map_toArray, List.map_cons, List.map_nil, hs, hx, hr]
    exact this

theorem step_app {P : Program} (w : World) {ops : Array Oper} {o : Oper} {a : Act} {K : Act → World → Prop} {Q : Exit → Act → World → Prop} {E : Prop} (hgd : o.guard = none) (s x : Operand) (t : TypeId)
    (ho : o.op = .call { callee := .builtin .append, args := #[s, x], argTypes := #[t, t] })
    (base : Nat) (e : TypeId) (i : TypeInfo) (z : Value) (size bytes : Nat) (ht : P.underlying t = some (.slice e)) (hi : P.info? e = some i) (hz : i.zero = some z)
    (hsize : i.size = size) (hby : i.bytes = bytes) (hzs : z.cells.size = size) (hsz : 0 < size)
    (v : Value) (n : Nat) (xs : List Value) (hs : a.eval s = v) (hown : w.ownsRow base e size v n xs)
    (ao : Option Addr) (m c : Nat) (news : List Value) (hx : a.eval x = .slice ao m c) (hao : ao = none → m = 0 ∧ c = 0) (hl : news.length = m * size) (hnews : ∀ ad, ao = some ad → ∀ j u, news[j]? = some u → w.cell? (ad.add j) = some u) (h1 : ∀ u ∈ news, u.oneCell' = true)
    (h63 : n + m ≤ maxLen) (hbytes : (n + m) * bytes ≤ 140737488355328) (hbase : base ≤ w.heap.size)
    (h : ∀ v' w', w'.ownsRow base e size v' (n + m) (xs ++ news) → w.grownBy w' v.ownBlock → K (a.put o.dst v') w') :
    if Region.wanted o (yielded ops a.tmps) = true then Oper.wp P o a w K Q else E := by
  have hw : Region.wanted o (yielded ops a.tmps) = true := by simp [Region.wanted, hgd]
  rw [if_pos hw]
  exact wp_app w s x t ho base e i z size bytes ht hi hz hsize hby hzs hsz v n xs hs hown ao m c news hx hao hl hnews h1 h63 hbytes hbase h
end Go.Proofs.Ytakjnbdjjeccoaa
/- Rings: what l5Rings holds. -/
namespace Go.Proofs.Ytakjnbdjjeccoaa
open Go.RowKit

/-- What is in what by one nest of a list. -/
def EdR (l : List NestT) (a b : Bs) : Prop := ∃ i, ∃ h : i < l.length, l[i].f0 = a ∧ l[i].f1 = b
theorem edG_iff {l : List NestT} (hG : GoodL l) (a b : Bs) : EdG l a b ↔ EdR l a b := ⟨fun h => h.2, fun h => ⟨hG, h⟩⟩
/-- The rings: those at one step, at two .. -/
structure RingP (E : Bs → Bs → Prop) (s : Bs) (R : List (List Bs)) : Prop where
  at_ : ∀ k (h : k < R.length) b, b ∈ R[k] ↔ Dist E s b (k + 1)
  all : ∀ b n, Dist E s b n → n ≤ R.length
  len : R.flatten.length ≤ 200
  cnt : R.length ≤ 200
  ne : ∀ k (h : k < R.length), R[k] ≠ []
theorem own_ne_type {w : World} {b1 b2 e1 e2 s1 s2 n1 n2 : Nat} {v1 v2 : Value} {x1 x2 : List Value} (h1 : w.ownsRow b1 e1 s1 v1 n1 x1) (h2 : w.ownsRow b2 e2 s2 v2 n2 x2) (hne : e1 ≠ e2) : v1.ownBlock = none ∨ v1.ownBlock ≠ v2.ownBlock := by
  rcases h1.2 with ⟨rfl, _⟩ | ⟨g, cap, cur, rfl, _, hg, _⟩
  · exact .inl rfl
  · refine .inr fun e => ?_
    rcases h2.2 with ⟨rfl, _⟩ | ⟨g', cap', cur', rfl, _, hg', _⟩
    · simp [Value.ownBlock] at e
    · simp [Value.ownBlock] at e
      subst e
      rw [hg] at hg'
      simp at hg'
      exact hne hg'.2
/-- Rings in memory: a row of rows. -/
structure RgAt (w : World) (base : Nat) (v : Value) (R : List (List Bs)) (sl : List Value) : Prop where
  row : w.ownsRow base 45 1 v R.length sl
  each : ∀ k (h : k < R.length), ∃ u, sl[k]? = some u ∧ w.ownsRow base 9 1 u R[k].length (R[k].map Value.string)
theorem RgAt.keep {w w' : World} {base : Nat} {v : Value} {R : List (List Bs)} {sl : List Value} (h : RgAt w base v R sl) (hb : Below w.heap.size w w') : RgAt w' base v R sl :=
  ⟨own_keep h.row hb, fun k hk => by obtain ⟨u, h1, h2⟩ := h.each k hk; exact ⟨u, h1, own_keep h2 hb⟩⟩
/-- .. while a row of texts that is none of them grows. -/
theorem RgAt.grown {w w' : World} {base : Nat} {v x : Value} {R : List (List Bs)} {sl : List Value} {c : Nat} {xs : List Value} (h : RgAt w base v R sl) (hx : w.ownsRow base 9 1 x c xs) (hd : ∀ u ∈ sl, DJ x u) (hg : w.grownBy w' x.ownBlock) : RgAt w' base v R sl :=
  ⟨h.row.kept hg (own_ne_type h.row hx (by decide)), fun k hk => by
    obtain ⟨u, h1, h2⟩ := h.each k hk
    exact ⟨u, h1, h2.kept hg (hd u (List.mem_of_getElem? h1)).ne⟩⟩
theorem RgAt.same {w w' : World} {base : Nat} {v : Value} {R : List (List Bs)} {sl : List Value} (h : RgAt w base v R sl) (hg : w.grownBy w' none) : RgAt w' base v R sl :=
  ⟨own_same h.row hg, fun k hk => by obtain ⟨u, h1, h2⟩ := h.each k hk; exact ⟨u, h1, own_same h2 hg⟩⟩
theorem DJ.symm {u v : Value} (h : DJ u v) : DJ v u := fun g k h1 h2 e => h k g h2 h1 e.symm
/-- A row that was appended to is still none of the others. -/
theorem DJ.app {x x' u : Value} {W : World} {base e size n : Nat} {xs : List Value} (h : DJ x u) (ha : x'.ownBlock = x.ownBlock ∨ x'.ownBlock = some W.heap.size) (hu : W.ownsRow base e size u n xs) : DJ x' u := fun g k h1 h2 => by
  rcases ha with e1 | e1
  · exact h g k (e1 ▸ h1) h2
  · rw [e1] at h1
    cases h1
    have := (hu.lt k h2).2
    omega
theorem DJ.nil_left (u : Value) : DJ (.slice none 0 0) u := dj_nil u
theorem BS.take' {E : Bs → Bs → Prop} {ms : List Bs} {s : Bs} {k : Nat} {L : Bs → Option Nat} {N : List Bs} {P P' : Bs → Bs → Prop} {ks : List Bs} {c0 : Nat} (h : BS E ms s k L N P ks c0) (c b : Bs) (hc : AtStep E s k c) (he : E c b) (hm : b ∈ ms) (hs : L b = none) (hP : ∀ x y, P' x y → P x y ∨ (x = c ∧ y = b)) : BS E ms s k (updL L b (k + 1)) (N ++ [b]) P' (ks ++ [b]) c0 := by
  have h1 := h.take c b hc he hm hs hP
  have hp : (ks ++ [b]).Perm (b :: ks) := List.perm_append_singleton b ks
  exact ⟨h1.bfs, fun x => (hp.mem_iff).trans (h1.keys x), hp.nodup_iff.2 h1.nd, by rw [hp.length_eq]; exact h1.len, fun x hx => h1.mem x (hp.mem_iff.1 hx)⟩

/-- Between rounds of l5Rings. -/
structure RS (E : Bs → Bs → Prop) (s : Bs) (k : Nat) (F ks : List Bs) (R : List (List Bs)) : Prop where
  n1 : F ≠ [] → R.length = k
  n2 : F = [] → R.length + 1 = k
  at_ : ∀ i (h : i < R.length) b, b ∈ R[i] ↔ Dist E s b (i + 1)
  len : R.flatten.length = ks.length
  cnt : R.length ≤ ks.length
  ne : ∀ k (h : k < R.length), R[k] ≠ []
theorem RS.fin {E : Bs → Bs → Prop} {ms : List Bs} {s : Bs} {k : Nat} {L : Bs → Option Nat} {ks : List Bs} {R : List (List Bs)} (h : RS E s k [] ks R) (hA : BA E ms s k L [] ks) (hm : ms.length ≤ 200) : RingP E s R := by
  have hk := h.n2 rfl
  have hR : R.length ≤ 200 := Nat.le_trans h.cnt (Nat.le_trans hA.le hm)
  refine ⟨h.at_, fun b n hd => ?_, by rw [h.len]; exact Nat.le_trans hA.le hm, hR, h.ne⟩
  obtain ⟨j, rfl⟩ : ∃ j, k = j + 1 := ⟨k - 1, by omega⟩
  have h1 := (hA.bfs.stop b n).2 hd
  have h2 := ((hA.bfs.le b n).1 h1).1
  by_cases e : n = j + 1
  · subst e
    have := (hA.bfs.front b).2 hd
    simp at this
  · omega
theorem RS.more {E : Bs → Bs → Prop} {s : Bs} {k : Nat} {F ks N ks' : List Bs} {R : List (List Bs)} (h : RS E s k F ks R) (hF : F ≠ []) (hN : N ≠ []) (hb : ∀ b, b ∈ N ↔ Dist E s b (k + 1)) (hl : ks'.length = ks.length + N.length) : RS E s (k + 1) N ks' (R ++ [N]) := by
  have hk := h.n1 hF
  have hne : ∀ i (hi : i < (R ++ [N]).length), (R ++ [N])[i] ≠ [] := fun i hi => by
    rw [List.getElem_append]
    split
    · exact h.ne i _
    · simpa using hN
  refine ⟨fun _ => by simp [hk], fun e => absurd e hN, fun i hi b => ?_, by simp [h.len, hl], by have := h.cnt; have : 0 < N.length := List.length_pos_iff.2 hN; simp; omega, hne⟩
  rw [List.getElem_append]
  split
  · exact h.at_ i _ b
  · have : i = k := by simp at hi; omega
    subst this
    simp
    exact hb b
theorem RS.none {E : Bs → Bs → Prop} {s : Bs} {k : Nat} {F ks ks' : List Bs} {R : List (List Bs)} (h : RS E s k F ks R) (hF : F ≠ []) (hl : ks'.length = ks.length) : RS E s (k + 1) [] ks' R :=
  ⟨fun e => absurd rfl e, fun _ => by rw [h.n1 hF], h.at_, by rw [h.len, hl], by have := h.cnt; omega, h.ne⟩
theorem info_strs : (Try.prog.info? 45).map (fun i => (i.zero, i.size, i.bytes)) = some (some (.slice none 0 0), 1, 24) := by kernel_rfl

/-- All rows that l5Rings has. -/
structure RW (w0 w : World) (v5 : Value) (R : List (List Bs)) (sl : List Value) (v6 : Value) (ks : List Bs) (v7 : Value) (F : List Bs) (v8 : Value) (N : List Bs) : Prop where
  rg : RgAt w w0.heap.size v5 R sl
  se : w.ownsRow w0.heap.size 9 1 v6 ks.length (ks.map Value.string)
  no : w.ownsRow w0.heap.size 9 1 v7 F.length (F.map Value.string)
  ne : w.ownsRow w0.heap.size 9 1 v8 N.length (N.map Value.string)
  d67 : DJ v6 v7
  d68 : DJ v6 v8
  d87 : DJ v8 v7
  dsl : ∀ u ∈ sl, DJ v6 u ∧ DJ v8 u
  below : Below w0.heap.size w0 w
section
variable {w0 w w' : World} {v5 v5' : Value} {R : List (List Bs)} {sl : List Value} {v6 v6' : Value} {ks : List Bs} {v7 : Value} {F : List Bs} {v8 v8' : Value} {N : List Bs} {b : Bs} {o : Obj}
theorem RW.same (h : RW w0 w v5 R sl v6 ks v7 F v8 N) (g : w.grownBy w' none) : RW w0 w' v5 R sl v6 ks v7 F v8 N :=
  ⟨h.rg.same g, own_same h.se g, own_same h.no g, own_same h.ne g, h.d67, h.d68, h.d87, h.dsl, h.below.trans (Below.grown (Below.refl _ _) g h.below.size (fun _ h => by cases h))⟩
theorem RW.sl_own (h : RW w0 w v5 R sl v6 ks v7 F v8 N) {u : Value} (hu : u ∈ sl) : ∃ n xs, w.ownsRow w0.heap.size 9 1 u n xs := by
  obtain ⟨k, hk, rfl⟩ := List.getElem_of_mem hu
  have hl : sl.length = R.length := by have := h.rg.row.1; omega
  obtain ⟨u, h1, h2⟩ := h.rg.each k (by omega)
  rw [List.getElem?_eq_getElem hk] at h1
  cases h1
  exact ⟨_, _, h2⟩
theorem RW.seen (h0 : RW w0 w v5 R sl v6 ks v7 F v8 N)
    (hown : w'.ownsRow w0.heap.size 9 1 v6' (ks.length + 1) (ks.map Value.string ++ [.string b])) (hg : (w.alloc o).grownBy w' v6.ownBlock) (hat : v6'.ownBlock = v6.ownBlock ∨ v6'.ownBlock = some (w.alloc o).heap.size) : RW w0 w' v5 R sl v6' (ks ++ [b]) v7 F v8 N := by
  have h := h0.same (World.grownBy_alloc w o none)
  refine ⟨h.rg.grown h.se (fun u hu => (h.dsl u hu).1) hg, by rw [List.length_append, List.map_append]; exact hown, h.no.kept hg h.d67.ne, h.ne.kept hg h.d68.ne, h.d67.app hat h.no, h.d68.app hat h.ne, h.d87, fun u hu => ?_, h.below.grown hg h.below.size (fun k hk => (h.se.lt k hk).1)⟩
  obtain ⟨n, xs, ho⟩ := h.sl_own hu
  exact ⟨(h.dsl u hu).1.app hat ho, (h.dsl u hu).2⟩
theorem RW.next (h0 : RW w0 w v5 R sl v6 ks v7 F v8 N)
    (hown : w'.ownsRow w0.heap.size 9 1 v8' (N.length + 1) (N.map Value.string ++ [.string b])) (hg : (w.alloc o).grownBy w' v8.ownBlock) (hat : v8'.ownBlock = v8.ownBlock ∨ v8'.ownBlock = some (w.alloc o).heap.size) : RW w0 w' v5 R sl v6 ks v7 F v8' (N ++ [b]) := by
  have h := h0.same (World.grownBy_alloc w o none)
  refine ⟨h.rg.grown h.ne (fun u hu => (h.dsl u hu).2) hg, h.se.kept hg h.d68.ne', h.no.kept hg h.d87.ne, by rw [List.length_append, List.map_append]; exact hown, h.d67, (h.d68.symm.app hat h.se).symm, h.d87.app hat h.no, fun u hu => ?_, h.below.grown hg h.below.size (fun k hk => (h.ne.lt k hk).1)⟩
  obtain ⟨n, xs, ho⟩ := h.sl_own hu
  exact ⟨(h.dsl u hu).1, (h.dsl u hu).2.app hat ho⟩
theorem row_not {b T base n : Nat} {C : Array Value} {v : Value} {xs : List Value} (hr : RowIs w b C T) (ho : w.ownsRow base 9 1 v n xs) (hT : T ≠ 9) (hg : (w.alloc o).grownBy w' v.ownBlock) : RowIs w' b C T := by
  have h1 : RowIs (w.alloc o) b C T := hr.keep (bAl (Below.refl _ _) o)
  refine row_grown h1 hg fun e => ?_
  have hb : w.heap[b]? = some (.cells C T (0, 0)) := hr
  exact own_not ho hb (fun cur e2 => by cases e2; exact hT rfl) e.symm
theorem RW.rings (h0 : RW w0 w v5 R sl v6 ks v7 F v8 N)
    (hown : w'.ownsRow w0.heap.size 45 1 v5' (R.length + 1) (sl ++ [v8])) (hg : (w.alloc o).grownBy w' v5.ownBlock) : RW w0 w' v5' (R ++ [N]) (sl ++ [v8]) v6 ks v8 N (.slice none 0 0) [] := by
  have h := h0.same (World.grownBy_alloc w o none)
  have k9 : ∀ (v : Value) (n : Nat) (xs : List Value), (w.alloc o).ownsRow w0.heap.size 9 1 v n xs → w'.ownsRow w0.heap.size 9 1 v n xs := fun v n xs hv => hv.kept hg (own_ne_type hv h.rg.row (by decide))
  have hl : sl.length = R.length := by have := h.rg.row.1; omega
  refine ⟨⟨by rw [List.length_append]; exact hown, fun k hk => ?_⟩, k9 _ _ _ h.se, k9 _ _ _ h.ne, World.ownsRow_nil _ _ _ _, h.d68, (dj_nil _).symm, dj_nil _, fun u hu => ⟨?_, dj_nil _⟩, h.below.grown hg h.below.size (fun k hk => (h.rg.row.lt k hk).1)⟩
  · by_cases e : k < R.length
    · obtain ⟨u, h1, h2⟩ := h.rg.each k e
      refine ⟨u, by rw [List.getElem?_append_left (by omega)]; exact h1, ?_⟩
      rw [List.getElem_append_left e]
      exact k9 _ _ _ h2
    · have ek : k = R.length := by simp at hk; omega
      subst ek
      refine ⟨v8, by rw [List.getElem?_append_right (by omega), hl, Nat.sub_self]; rfl, ?_⟩
      rw [List.getElem_append_right (Nat.le_refl _)]
      simp only [Nat.sub_self, List.getElem_cons_zero]
      exact k9 _ _ _ h.ne
  · rcases List.mem_append.1 hu with hu | hu
    · exact (h.dsl u hu).1
    · simp at hu; subst hu; exact h.d68
theorem RW.turn (h : RW w0 w v5 R sl v6 ks v7 F v8 N) : RW w0 w v5 R sl v6 ks v8 N (.slice none 0 0) [] :=
  ⟨h.rg, h.se, h.ne, World.ownsRow_nil _ _ _ _, h.d68, (dj_nil _).symm, dj_nil _, fun u hu => ⟨(h.dsl u hu).1, dj_nil _⟩, h.below⟩
end

/-- The edges that were looked at: those of the first j, and those of c among the first m nests. -/
def Pj (E : Bs → Bs → Prop) (l : List NestT) (F : List Bs) (j m : Nat) (c : Bs) : Bs → Bs → Prop := fun c' y => (c' ∈ F.take j ∧ E c' y) ∨ (c' = c ∧ ∃ i, ∃ h : i < l.length, i < m ∧ l[i].f0 = c' ∧ l[i].f1 = y)
def Pf (E : Bs → Bs → Prop) (F : List Bs) (j : Nat) : Bs → Bs → Prop := fun c b => c ∈ F.take j ∧ E c b
theorem Pj.step {E : Bs → Bs → Prop} {l : List NestT} {F : List Bs} {j m : Nat} {c : Bs} (hm : m < l.length) (x z : Bs) (h : Pj E l F j (m + 1) c x z) : Pj E l F j m c x z ∨ (x = l[m].f0 ∧ x = c ∧ z = l[m].f1) := by
  rcases h with h | ⟨rfl, i, hi, h1, h2, h3⟩
  · exact .inl (.inl h)
  · by_cases e : i = m
    · subst e; exact .inr ⟨h2.symm, rfl, h3.symm⟩
    · exact .inl (.inr ⟨rfl, i, hi, by omega, h2, h3⟩)
theorem BA.enter' {E : Bs → Bs → Prop} {ms : List Bs} {s : Bs} {k : Nat} {L : Bs → Option Nat} {F ks : List Bs} (h : BA E ms s k L F ks) : BS E ms s k L [] (Pf E F 0) ks ks.length := h.enter
end Go.Proofs.Ytakjnbdjjeccoaa
