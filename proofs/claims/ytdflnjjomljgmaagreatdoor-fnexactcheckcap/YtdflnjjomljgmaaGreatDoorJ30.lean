/- QApp, KGe, one behind the other. -/
import Derived.Test.YtdflnjjomljgmaaGreatDoorJ2
import Derived.Laws.AppendOwn
import Derived.Laws.OwnMore
import Derived.Deep.AppendLies
import Derived.Test.YtdflnjjomljgmaaGreatDoorJ27
import Derived.Test.YtdflnjjomljgmaaGreatDoorJ29
import Derived.Deep.RegionHeld3
import Derived.Deep.RegionLawGrows
import Derived.Deep.Cut
/- append at a step of a region that draws its order: whatever is appended, nil and nothing too. -/
namespace Go.Proofs.YtdflnjjomljgmaaGreatDoor
open Go.RowKit

theorem wp_app {P : Program} (w : World) {o : Oper} {a : Act} {K : Act → World → Prop} {Q : Exit → Act → World → Prop} (s x : Operand) (t : TypeId)
    (ho : o.op = .call { callee := .builtin .append, args := #[s, x], argTypes := #[t, t] })
    (base : Nat) (e : TypeId) (i : TypeInfo) (z : Value) (size bytes : Nat) (ht : P.underlying t = some (.slice e)) (hi : P.info? e = some i) (hz : i.zero = some z)
    (hsize : i.size = size) (hby : i.bytes = bytes) (hzs : z.cells.size = size) (hsz : 0 < size)
    (v : Value) (n : Nat) (xs : List Value) (hs : a.eval s = v) (hown : w.ownsRow base e size v n xs)
    (ao : Option Addr) (m c : Nat) (news : List Value) (hx : a.eval x = .slice ao m c) (hao : ao = none → m = 0 ∧ c = 0) (hl : news.length = m * size) (hnews : ∀ ad, ao = some ad → ∀ j u, news[j]? = some u → w.cell? (ad.add j) = some u) (h1 : ∀ u ∈ news, u.oneCell' = true)
    (h63 : n + m ≤ maxLen) (hbytes : (n + m) * bytes ≤ 140737488355328) (hbase : base ≤ w.heap.size)
    (h : ∀ v' w', w'.ownsRow base e size v' (n + m) (xs ++ news) → w.grownBy w' v.ownBlock → K (a.put o.dst v') w') : o.wp P a w K Q := by
  cases ao with
  | some ad => exact wp_append_own w s x t ho base e i z size bytes ht hi hz hsize hby hzs hsz v n xs hs hown ad m c news hx hl (hnews ad rfl) h1 h63 hbytes hbase fun v' w' h2 h3 _ => h v' w' h2 h3
  | none =>
    obtain ⟨rfl, rfl⟩ := hao rfl
    have hn : news = [] := List.eq_nil_of_length_eq_zero (by simpa using hl)
    subst hn
    have hr := run_append_owned_none (P := P) (w := w) base t o.type e i size ht hi v n xs hown
    have h2 : w.ownsRow base e size v (n + 0) (xs ++ []) := by simpa using hown
    have := h v w h2 ⟨rfl, rfl, rfl, Nat.le_refl _, fun _ _ _ => rfl⟩
    unfold Oper.wp execOp
    simp only [ho, resolve, invoke, builtin, Sem.run_bind, Sem.run_pure, Result.andThen_ok, List.map_toArray, List.map_cons, List.map_nil, hs, hx, hr]
    exact this

theorem step_app {P : Program} (w : World) {ops : Array Oper} {o : Oper} {a : Act} {K : Act → World → Prop} {Q : Exit → Act → World → Prop} {E : Prop} (hgd : o.guard = none) (s x : Operand) (t : TypeId)
    (ho : o.op = .call { callee := .builtin .append, args := #[s, x], argTypes := #[t, t] })
    (base : Nat) (e : TypeId) (i : TypeInfo) (z : Value) (size bytes : Nat) (ht : P.underlying t = some (.slice e)) (hi : P.info? e = some i) (hz : i.zero = some z)
    (hsize : i.size = size) (hby : i.bytes = bytes) (hzs : z.cells.size = size) (hsz : 0 < size)
    (v : Value) (n : Nat) (xs : List Value) (hs : a.eval s = v) (hown : w.ownsRow base e size v n xs)
    (ao : Option Addr) (m c : Nat) (news : List Value) (hx : a.eval x = .slice ao m c) (hao : ao = none → m = 0 ∧ c = 0) (hl : news.length = m * size) (hnews : ∀ ad, ao = some ad → ∀ j u, news[j]? = some u → w.cell? (ad.add j) = some u) (h1 : ∀ u ∈ news, u.oneCell' = true)
    (h63 : n + m ≤ maxLen) (hbytes : (n + m) * bytes ≤ 140737488355328) (hbase : base ≤ w.heap.size)
    (h : ∀ v' w', w'.ownsRow base e size v' (n + m) (xs ++ news) → w.grownBy w' v.ownBlock → K (a.put o.dst v') w') :
    if Region.wanted o (yielded ops a.tmps) = true then Oper.wp P o a w K Q else E := by
  have hw : Region.wanted o (yielded ops a.tmps) = true := by simp [Region.wanted, hgd]
  rw [if_pos hw]
  exact wp_app w s x t ho base e i z size bytes ht hi hz hsize hby hzs hsz v n xs hs hown ao m c news hx hao hl hnews h1 h63 hbytes hbase h
end Go.Proofs.YtdflnjjomljgmaaGreatDoor
/- Attenuate on both sides. -/
namespace Go.Proofs.YtdflnjjomljgmaaGreatDoor.V
open Go.RowKit
theorem termX_leA (x : CavTermT) (ok : x.Ok) : (termX x).size ≤ 1200 := by
  unfold termX
  split
  · rename_i h
    unfold termB at h
    simp only [Bool.and_eq_true] at h
    obtain ⟨⟨⟨g0, g1⟩, g2⟩, g3⟩ := h
    have h1 := goodName_le g0
    have h2 := sgn_size x.f1
    have h3 := atomL_len ok.n8 ok.n9 g2
    unfold termL sp1
    rw [ByteArray.size_append, ByteArray.size_append, ByteArray.size_append, ByteArray.size_append]
    have h4 : (⟨(atomL x.f3 x.f4 x.f5 x.f6).toArray⟩ : ByteArray).size = (atomL x.f3 x.f4 x.f5 x.f6).length := by show (List.toArray _).size = _; simp
    have h5 : (⟨#[32]⟩ : ByteArray).size = 1 := rfl
    omega
  · show (0 : Nat) ≤ _; omega
end Go.Proofs.YtdflnjjomljgmaaGreatDoor.V
namespace Go.Proofs.YtdflnjjomljgmaaGreatDoor.D
open Go.RowKit
set_option maxRecDepth 20000
set_option linter.unusedSimpArgs false

def AttP (id : ByteArray) (T : List V.CavTermT) (t : V.CavTermT) (n : Nat) : Prop := V.GoodC id T n ∧ V.termB t = true ∧ T.length ≠ 20
def attI (P : Prop) [Decidable P] (id : ByteArray) : ByteArray := if P then id else ⟨#[]⟩
structure AttOut (id : ByteArray) (T : List V.CavTermT) (G : List UInt8) (t : V.CavTermT) (I : ByteArray) (T' : List V.CavTermT) (G' : List UInt8) : Prop where
  yes : AttP id T t G.length → I = id ∧ T' = T ++ [t] ∧ G' = mac G (V.termX t).data.toList
  no : ¬ AttP id T t G.length → I = ⟨#[]⟩ ∧ T' = [] ∧ G' = []
theorem AttOut.uniq {id : ByteArray} {T : List V.CavTermT} {G : List UInt8} {t : V.CavTermT} {I I2 : ByteArray} {T' T2 : List V.CavTermT} {G' G2 : List UInt8} (h : AttOut id T G t I T' G') (k : AttOut id T G t I2 T2 G2) : I = I2 ∧ T' = T2 ∧ G' = G2 := by
  by_cases g : AttP id T t G.length
  · obtain ⟨a, b, c⟩ := h.yes g
    obtain ⟨a', b', c'⟩ := k.yes g
    exact ⟨a.trans a'.symm, b.trans b'.symm, c.trans c'.symm⟩
  · obtain ⟨a, b, c⟩ := h.no g
    obtain ⟨a', b', c'⟩ := k.no g
    exact ⟨a.trans a'.symm, b.trans b'.symm, c.trans c'.symm⟩
def AttRet (id : ByteArray) (T : List V.CavTermT) (G : List UInt8) (t : V.CavTermT) (base : Nat) (e : Ending) (w' : World) : Prop :=
  ∃ v1 v2 I T' G', AttOut id T G t I T' G' ∧ e = .returned (.agg #[.string I, v1, v2]) ∧ w'.ownsRow base 58 7 v1 T'.length (V.CavTermsV T') ∧ w'.ownsRow base 5 1 v2 G'.length (G'.map byteV)
theorem AttRet.zero {id : ByteArray} {T : List V.CavTermT} {G : List UInt8} {t : V.CavTermT} {base : Nat} {w' : World} (h : ¬ AttP id T t G.length) : AttRet id T G t base (.returned (.agg #[.string ⟨#[]⟩, .slice none 0 0, .slice none 0 0])) w' :=
  ⟨_, _, _, [], [], ⟨fun k => absurd k h, fun _ => ⟨rfl, rfl, rfl⟩⟩, rfl, World.ownsRow_nil _ _ _ _, World.ownsRow_nil _ _ _ _⟩
/-- The three boxes. -/
structure Bx (w : World) (b : Nat) (id : ByteArray) (at' ag : Option Addr) (lt ct lg cg : Nat) (t : V.CavTermT) : Prop where
  c : RowIs w b (V.capC id at' ag lt ct lg cg) 38
  t : RowIs w (b + 1) #[.string t.f0, .int .i64 t.f1, .string t.f2, .int .i64 t.f3, .int .i64 t.f4, .string t.f5, .string t.f6] 58
  r : RowIs w (b + 1 + 1) #[.string ⟨#[]⟩, .slice none 0 0, .slice none 0 0] 38
theorem Bx.keep {w w' : World} {b : Nat} {id : ByteArray} {at' ag : Option Addr} {lt ct lg cg : Nat} {t : V.CavTermT} (h : Bx w b id at' ag lt ct lg cg t) (hb : Below w.heap.size w w') : Bx w' b id at' ag lt ct lg cg t := ⟨h.c.keep hb, h.t.keep hb, h.r.keep hb⟩
theorem own_setA {w : World} {base e size n b o : Nat} {v u : Value} {xs : List Value} (h : w.ownsRow base e size v n xs) (hne : ∀ g, v.ownBlock = some g → g ≠ b) : (w.setCell ⟨b, o, none⟩ u).ownsRow base e size v n xs := by
  refine ⟨h.1, ?_⟩
  rcases h.2 with h2 | ⟨g, cap, cur, hv, h3, h4, h5⟩
  · exact .inl h2
  · exact .inr ⟨g, cap, cur, hv, h3, by rw [heap_setCell_other w ⟨b, o, none⟩ g u (hne g (by rw [hv]; rfl))]; exact h4, h5⟩
theorem own_baseA {w : World} {base base' e size n : Nat} {v : Value} {xs : List Value} (h : w.ownsRow base e size v n xs) (hb : base' ≤ base) : w.ownsRow base' e size v n xs := by
  refine ⟨h.1, h.2.imp id ?_⟩
  rintro ⟨g, cap, cur, r1, r2, r3⟩
  exact ⟨g, cap, cur, r1, Nat.le_trans hb r2, r3⟩
theorem own_set3A {w : World} {base base' e size n b : Nat} {v u0 u1 u2 : Value} {xs : List Value} (h : w.ownsRow base e size v n xs) (hb : base' ≤ base) (hne : b < base) :
    (((w.setCell ⟨b, 0, none⟩ u0).setCell ⟨b, 1, none⟩ u1).setCell ⟨b, 2, none⟩ u2).ownsRow base' e size v n xs := by
  have ne : ∀ g, v.ownBlock = some g → g ≠ b := fun g e => by have := (h.lt g e).1; omega
  exact own_baseA (own_setA (own_setA (own_setA h ne) ne) ne) hb
theorem own_keepA {w w' : World} {base n e size : Nat} {v : Value} {xs : List Value} (h : w.ownsRow base e size v n xs) (hb : Below w.heap.size w w') : w'.ownsRow base e size v n xs := by
  refine ⟨h.1, h.2.imp_right ?_⟩
  rintro ⟨g, cap, cur, rfl, hg, hh, hc⟩
  exact ⟨g, cap, cur, rfl, hg, by rw [hb.block g (Array.getElem?_eq_some_iff.1 hh).1]; exact hh, hc⟩
theorem set3B {w w3 : World} {b : Nat} (h : Below w.heap.size w w3) (hb : w.heap.size ≤ b) (u0 u1 u2 : Value) : Below w.heap.size w (((w3.setCell ⟨b, 0, none⟩ u0).setCell ⟨b, 1, none⟩ u1).setCell ⟨b, 2, none⟩ u2) := ((h.setCell hb _).setCell hb _).setCell hb _
theorem conv_bytesA (s : ByteArray) (w : World) : ∃ cap w1, (convert 9 22 (.string s)).run Tryz.prog w = .ok (.slice (some ⟨w.heap.size, 0, none⟩) s.size cap) w1 ∧ Below w.heap.size w w1 ∧ SlB w1 w1.heap.size (some ⟨w.heap.size, 0, none⟩) s.size s.data.toList := by
  refine ⟨_, _, run_bytes_of_string (P := Tryz.prog) w 9 22 5 s Tryz.underlying9 Tryz.underlying22 Tryz.underlying5, ((Below.refl _ _).drew).alloc (Nat.le_refl _) _, ?_⟩
  have e : s.size = s.data.toList.length := by show s.data.size = _; simp
  refine ⟨e, .inr ⟨_, 0, rfl, by simp, by simp, ?_⟩⟩
  intro j h
  have h' : w.drew.heap.size = w.heap.size := rfl
  have h2 : j < s.data.size := by simpa using h
  rw [← h', Nat.zero_add, World.cell?_alloc_mark]
  unfold bytesRow
  rw [Array.getElem?_append_left (by simpa using h2)]
  simp only [Array.getElem?_map, Array.getElem?_eq_getElem h2, Option.map_some]
  rfl
theorem takeA {P : Program} {ops : Array Oper} {Q : Exit → Act → World → Prop} {md : Region.Mode} {S : World → Prop} {i : Nat} {oi : Oper} {v : Value} {d : Option Tmp} {fuel : Nat} {listed : Array Bool} {a : Act} {w : World} (hi : ops[i]? = some oi) (hd : oi.dst = d)
    (hs : Region.noSelect ops = true) (hf : Region.free md ops listed i = true) (hr : (Region.ready md ops listed).contains i = true)
    (hQ : ∀ c a w, Q (.panic c) (a.put oi.dst v) w → Q (.panic c) a w) (hy : YieldsIf P ops S oi v a) (hS : S w)
    (h : wpAnyH P md ops Q S fuel (listed.setIfInBounds i true) (a.put d v) w) : wpAnyH P md ops Q S (fuel + 1) listed a w := by
  subst hd
  exact wpAnyH_take hi hs hf hr hQ hy hS h
theorem undrewA {w w' : World} (h : Below w.drew.heap.size w.drew w') : Below w.heap.size w w' := bTr ((Below.refl _ _).drew) h
/-- The region's cells. -/
def BxS (w : World) (b : Nat) (id : ByteArray) (at' ag : Option Addr) (lt ct lg cg : Nat) (t : V.CavTermT) : Prop :=
  (w.cell? ⟨b, 0, none⟩ = some (.string id) ∧ w.cell? ⟨b, 1, none⟩ = some (.slice at' lt ct) ∧ w.cell? ⟨b, 2, none⟩ = some (.slice ag lg cg)) ∧
  (w.cell? ⟨b + 1, 0, none⟩ = some (.string t.f0) ∧ w.cell? ⟨b + 1, 1, none⟩ = some (.int .i64 t.f1) ∧ w.cell? ⟨b + 1, 2, none⟩ = some (.string t.f2) ∧ w.cell? ⟨b + 1, 3, none⟩ = some (.int .i64 t.f3) ∧ w.cell? ⟨b + 1, 4, none⟩ = some (.int .i64 t.f4) ∧ w.cell? ⟨b + 1, 5, none⟩ = some (.string t.f5) ∧ w.cell? ⟨b + 1, 6, none⟩ = some (.string t.f6))
theorem Bx.s {w : World} {b : Nat} {id : ByteArray} {at' ag : Option Addr} {lt ct lg cg : Nat} {t : V.CavTermT} (h : Bx w b id at' ag lt ct lg cg t) : BxS w b id at' ag lt ct lg cg t :=
  ⟨⟨h.c.at rfl, h.c.at rfl, h.c.at rfl⟩, h.t.at rfl, h.t.at rfl, h.t.at rfl, h.t.at rfl, h.t.at rfl, h.t.at rfl, h.t.at rfl⟩
theorem terms_len (T : List V.CavTermT) : (V.CavTermsV T).length = T.length * 7 := by
  unfold V.CavTermsV
  induction T with
  | nil => rfl
  | cons x T ih =>
    rw [List.flatMap_cons, List.length_append, ih, List.length_cons]
    show 7 + T.length * 7 = _
    omega
theorem terms_get {w : World} {a : Addr} {b off : Nat} (ha : a = ⟨b, off, none⟩) {T : List V.CavTermT} (h : V.CavTermRow w b off T) : ∀ j u, (V.CavTermsV T)[j]? = some u → w.cell? (a.add j) = some u := by
  intro j u hj
  subst ha
  have hadd : ((⟨b, off, none⟩ : Addr).add j) = ⟨b, off + j, none⟩ := by simp [Addr.add]
  rw [hadd]
  obtain ⟨i, r, hr, rfl⟩ : ∃ i r, r < 7 ∧ j = i * 7 + r := ⟨j / 7, j % 7, Nat.mod_lt _ (by decide), by omega⟩
  have hlen := terms_len T
  have hi : i < T.length := by
    have := (List.getElem?_eq_some_iff.1 hj).1
    omega
  have hv : (V.encCavTerm T[i])[r]? = some u := by
    have hr2 : r < (V.encCavTerm T[i]).length := by show r < 7; exact hr
    have h1 := V.CavTermsV_get T i hi r _ (List.getElem?_eq_getElem hr2)
    rw [hj] at h1
    rw [List.getElem?_eq_getElem hr2]
    exact h1.symm
  match r, hr with
  | 0, _ => simp [V.encCavTerm] at hv; subst hv; exact h.c0 i hi
  | 1, _ => simp [V.encCavTerm] at hv; subst hv; rw [show off + (i * 7 + 1) = off + i * 7 + 1 by omega]; exact h.c1 i hi
  | 2, _ => simp [V.encCavTerm] at hv; subst hv; rw [show off + (i * 7 + 2) = off + i * 7 + 2 by omega]; exact h.c2 i hi
  | 3, _ => simp [V.encCavTerm] at hv; subst hv; rw [show off + (i * 7 + 3) = off + i * 7 + 3 by omega]; exact h.c3 i hi
  | 4, _ => simp [V.encCavTerm] at hv; subst hv; rw [show off + (i * 7 + 4) = off + i * 7 + 4 by omega]; exact h.c4 i hi
  | 5, _ => simp [V.encCavTerm] at hv; subst hv; rw [show off + (i * 7 + 5) = off + i * 7 + 5 by omega]; exact h.c5 i hi
  | 6, _ => simp [V.encCavTerm] at hv; subst hv; rw [show off + (i * 7 + 6) = off + i * 7 + 6 by omega]; exact h.c6 i hi
theorem terms_one (T : List V.CavTermT) : ∀ u ∈ V.CavTermsV T, u.oneCell' = true := by
  intro u hu
  unfold V.CavTermsV at hu
  obtain ⟨x, _, h⟩ := List.mem_flatMap.1 hu
  exact V.encCavTerm_one x u h
theorem RowIs.keepA {w w' : World} {b : Nat} {C : Array Value} {T : TypeId} (h : RowIs w b C T) (hg : w.grownBy w' none) : RowIs w' b C T := by
  have hl := h.lt
  unfold RowIs at *
  rw [hg.block b hl (fun e => by cases e)]; exact h
theorem ct_news {w : World} {a : Option Addr} {len : Nat} {T : List V.CavTermT} (h : V.SlCavTerm w a len T) : ∀ ad, a = some ad → ∀ j u, (V.CavTermsV T)[j]? = some u → w.cell? (ad.add j) = some u := by
  intro ad e j u hj
  rcases h.2 with rfl | ⟨b, off, e2, r⟩
  · simp [V.CavTermsV] at hj
  · rw [e] at e2
    cases e2
    exact terms_get rfl r j u hj
theorem own_form {w : World} {base e size n : Nat} {v : Value} {xs : List Value} (h : w.ownsRow base e size v n xs) : ∃ a cap, v = .slice a n cap := by
  rcases h.2 with ⟨h1, h2⟩ | ⟨g, cap, cur, h1, _⟩
  · exact ⟨none, 0, by rw [h1, h2]⟩
  · exact ⟨_, cap, h1⟩
theorem Bx.set3 {w : World} {b : Nat} {id : ByteArray} {at' ag : Option Addr} {lt ct lg cg : Nat} {t : V.CavTermT} (h : Bx w b id at' ag lt ct lg cg t) (u0 u1 u2 : Value) : BxS (((w.setCell ⟨b + 1 + 1, 0, none⟩ u0).setCell ⟨b + 1 + 1, 1, none⟩ u1).setCell ⟨b + 1 + 1, 2, none⟩ u2) b id at' ag lt ct lg cg t := by
  have c := ((h.c.setOther (z := b + 1 + 1) (o := 0) u0 (by omega)).setOther (z := b + 1 + 1) (o := 1) u1 (by omega)).setOther (z := b + 1 + 1) (o := 2) u2 (by omega)
  have t := ((h.t.setOther (z := b + 1 + 1) (o := 0) u0 (by omega)).setOther (z := b + 1 + 1) (o := 1) u1 (by omega)).setOther (z := b + 1 + 1) (o := 2) u2 (by omega)
  exact ⟨⟨c.at rfl, c.at rfl, c.at rfl⟩, t.at rfl, t.at rfl, t.at rfl, t.at rfl, t.at rfl, t.at rfl, t.at rfl⟩
theorem enc_snoc (T : List V.CavTermT) (t : V.CavTermT) : V.CavTermsV T ++ (#[.string t.f0, .int .i64 t.f1, .string t.f2, .int .i64 t.f3, .int .i64 t.f4, .string t.f5, .string t.f6] : Array Value).toList = V.CavTermsV (T ++ [t]) := (V.CavTermsV_snoc T t).symm
theorem info_partsA {P : Program} {t : TypeId} {z : Value} {n b : Nat} (h : (P.info? t).map (fun i => (i.zero, i.size, i.bytes)) = some (some z, n, b)) : ∃ i, P.info? t = some i ∧ i.zero = some z ∧ i.size = n ∧ i.bytes = b := by
  obtain ⟨i, h1, h2⟩ := Option.map_eq_some_iff.1 h
  simp only [Prod.mk.injEq] at h2
  exact ⟨i, h1, h2.1, h2.2.1, h2.2.2⟩
set_option maxHeartbeats 8000000 in
theorem sAttenuate_any (id : ByteArray) (at' ag : Option Addr) (lt ct cg : Nat) (T : List V.CavTermT) (G : List UInt8) (t : V.CavTermT) (w : World) (hid : id.size ≤ maxLen) (hl : lt ≤ 1048576) (hs : V.SlCavTerm w at' lt T) (ok : ∀ q ∈ T, V.CavTermT.Ok q) (hg : SlB w w.heap.size ag G.length G) (hz : G.length ≤ 1048576) (okt : t.Ok) (hct : lt ≤ ct) (hnil : at' = none → ct = 0) :
    Calls Tryz.prog 22 #[V.capV id at' ag lt ct G.length cg, .agg #[.string t.f0, .int .i64 t.f1, .string t.f2, .int .i64 t.f3, .int .i64 t.f4, .string t.f5, .string t.f6]] w fun e w' => AttRet id T G t w.heap.size e w' ∧ Below w.heap.size w w' := by
  obtain ⟨i0, hi, hz0, hz1, hz2⟩ := info_partsA V.info_CavTerm
  obtain ⟨W, hW⟩ : ∃ W, W = ((w.alloc (.cells (V.capC id at' ag lt ct G.length cg) 38)).alloc (.cells #[.string t.f0, .int .i64 t.f1, .string t.f2, .int .i64 t.f3, .int .i64 t.f4, .string t.f5, .string t.f6] 58)).alloc (.cells #[.string ⟨#[]⟩, .slice none 0 0, .slice none 0 0] 38) := ⟨_, rfl⟩
  have B0 := hide (show Below w.heap.size w W by rw [hW]; exact bAl (bAl (bAl (Below.refl _ _) _) _) _)
  have ZW := hide (show W.heap.size = w.heap.size + 1 + 1 + 1 by rw [hW]; simp)
  have X := hide (show Bx W w.heap.size id at' ag lt ct G.length cg t from ⟨by rw [hW]; exact ((RowIs.new w _ _).keep (bAl (Below.refl _ _) _)).keep (bAl (Below.refl _ _) _), by
      rw [hW]
      have := (RowIs.new (w.alloc (.cells (V.capC id at' ag lt ct G.length cg) 38)) #[.string t.f0, .int .i64 t.f1, .string t.f2, .int .i64 t.f3, .int .i64 t.f4, .string t.f5, .string t.f6] 58).keep (bAl (Below.refl _ _) (.cells #[.string ⟨#[]⟩, .slice none 0 0, .slice none 0 0] 38))
      simpa using this, by
      rw [hW]
      have := RowIs.new ((w.alloc (.cells (V.capC id at' ag lt ct G.length cg) 38)).alloc (.cells #[.string t.f0, .int .i64 t.f1, .string t.f2, .int .i64 t.f3, .int .i64 t.f4, .string t.f5, .string t.f6] 58)) #[.string ⟨#[]⟩, .slice none 0 0, .slice none 0 0] 38
      simpa using this⟩)
  have S := hide (hs.keep (unhide B0))
  have SG := hide ((hg.keep (unhide B0)).mono (unhide B0).size)
  have HW := hide hW.symm
  have HLL := hide hs.1
  have HO := hide ok
  have HZ := hide hz
  have HOT := hide okt
  have q0 := hide (fun w (hs : V.SlCavTerm w at' lt T) => V.l17Good_any id at' ag lt ct G.length cg T w hid hl hs ok)
  have q1 := hide (fun w => V.l17Term_any t w okt)
  have HN := hide (fun (h : ¬ V.GoodC id T G.length) (k : AttP id T t G.length) => h k.1)
  have HN1 := hide (fun (h : ¬ V.termB t = true) (k : AttP id T t G.length) => h k.2.1)
  have HN2 := hide (fun (h : T.length = 20) (k : AttP id T t G.length) => k.2.2 h)
  have HY := hide (fun (h1 : V.GoodC id T G.length) (h2 : V.termB t = true) (h3 : T.length ≠ 20) => show AttP id T t G.length from ⟨h1, h2, h3⟩)
  have qT := hide (fun w => V.sTermText_any t w okt)
  have XW := X
  have SW := S
  have SGW := SG
  have HNIL := hide hnil
  have HCT := hide hct
  clear hW hs ok hg hid okt hz hnil hct
  have x0 := (unhide X).c.at (o := 0) (v := .string id) rfl
  have x1 := (unhide X).c.at (o := 1) (v := .slice at' lt ct) rfl
  have x2 := (unhide X).c.at (o := 2) (v := .slice ag G.length cg) rfl
  have xz := (unhide X).c.lt
  have t0 := (unhide X).t.at (o := 0) (v := .string t.f0) rfl
  have t1 := (unhide X).t.at (o := 1) (v := .int .i64 t.f1) rfl
  have t2 := (unhide X).t.at (o := 2) (v := .string t.f2) rfl
  have t3 := (unhide X).t.at (o := 3) (v := .int .i64 t.f3) rfl
  have t4 := (unhide X).t.at (o := 4) (v := .int .i64 t.f4) rfl
  have t5 := (unhide X).t.at (o := 5) (v := .string t.f5) rfl
  have t6 := (unhide X).t.at (o := 6) (v := .string t.f6) rfl
  have tz := (unhide X).t.lt
  have y0 := (unhide X).r.at (o := 0) (v := .string ⟨#[]⟩) rfl
  have y1 := (unhide X).r.at (o := 1) (v := .slice none 0 0) rfl
  have y2 := (unhide X).r.at (o := 2) (v := .slice none 0 0) rfl
  have g0 := (unhide X).r.froz 0
  have g1 := (unhide X).r.froz 1
  have g2 := (unhide X).r.froz 2
  have yz := (unhide X).r.lt
  go_enter Tryz.func22, Tryz.ntmps22
  go_upto_region 1 with fail
  rw [unhide HW]
  go_wp2_with fail
  clear x0 x1 x2 xz t0 t1 t2 t3 t4 t5 t6 tz y0 y1 y2 g0 g1 g2 yz
  refine (unhide q0 _ (unhide S)).mono ?_
  rintro e w1 ⟨⟨b, rfl, hb⟩, hb1⟩
  have HB := hide hb
  have B1 := hide (bTr (unhide B0) hb1)
  have E1 := hide hb1
  have X1 := hide ((unhide X).keep hb1)
  have S1 := hide ((unhide S).keep hb1)
  have SG1 := hide (((unhide SG).keep hb1).mono hb1.size)
  clear hb hb1 X S SG q0 HW
  have x0 := (unhide X1).c.at (o := 0) (v := .string id) rfl
  have x1 := (unhide X1).c.at (o := 1) (v := .slice at' lt ct) rfl
  have x2 := (unhide X1).c.at (o := 2) (v := .slice ag G.length cg) rfl
  have xz := (unhide X1).c.lt
  have t0 := (unhide X1).t.at (o := 0) (v := .string t.f0) rfl
  have t1 := (unhide X1).t.at (o := 1) (v := .int .i64 t.f1) rfl
  have t2 := (unhide X1).t.at (o := 2) (v := .string t.f2) rfl
  have t3 := (unhide X1).t.at (o := 3) (v := .int .i64 t.f3) rfl
  have t4 := (unhide X1).t.at (o := 4) (v := .int .i64 t.f4) rfl
  have t5 := (unhide X1).t.at (o := 5) (v := .string t.f5) rfl
  have t6 := (unhide X1).t.at (o := 6) (v := .string t.f6) rfl
  have tz := (unhide X1).t.lt
  have y0 := (unhide X1).r.at (o := 0) (v := .string ⟨#[]⟩) rfl
  have y1 := (unhide X1).r.at (o := 1) (v := .slice none 0 0) rfl
  have y2 := (unhide X1).r.at (o := 2) (v := .slice none 0 0) rfl
  have g0 := (unhide X1).r.froz 0
  have g1 := (unhide X1).r.froz 1
  have g2 := (unhide X1).r.froz 2
  have yz := (unhide X1).r.lt
  cases b
  · go_wp2_with fail
    exact bodyPost_ret (v := .agg #[.string ⟨#[]⟩, .slice none 0 0, .slice none 0 0]) (by simp [results, Tryz.results22, go_sem, y0, y1, y2]) rfl ⟨AttRet.zero (unhide HN (fun h => by have := (unhide HB).2 h; cases this)), set3B (unhide B1) (by omega) _ _ _⟩
  have GC := hide ((unhide HB).1 (by trivial))
  clear HB
  have L20 : lt ≤ 20 := by have h1 := (unhide GC).2.1.1; have h2 := unhide HLL; omega
  go_wp2_with fail
  clear x0 x1 x2 xz t0 t1 t2 t3 t4 t5 t6 tz y0 y1 y2 g0 g1 g2 yz
  refine (unhide q1 _).mono ?_
  rintro e w2 ⟨rfl, hb2⟩
  have B2 := hide (bTr (unhide B1) hb2)
  have E2 := hide (bTr (unhide E1) hb2)
  have X2 := hide ((unhide X1).keep hb2)
  have S2 := hide ((unhide S1).keep hb2)
  have SG2 := hide (((unhide SG1).keep hb2).mono hb2.size)
  clear hb2 X1 S1 SG1 B1 E1 q1
  have x0 := (unhide X2).c.at (o := 0) (v := .string id) rfl
  have x1 := (unhide X2).c.at (o := 1) (v := .slice at' lt ct) rfl
  have x2 := (unhide X2).c.at (o := 2) (v := .slice ag G.length cg) rfl
  have xz := (unhide X2).c.lt
  have t0 := (unhide X2).t.at (o := 0) (v := .string t.f0) rfl
  have t1 := (unhide X2).t.at (o := 1) (v := .int .i64 t.f1) rfl
  have t2 := (unhide X2).t.at (o := 2) (v := .string t.f2) rfl
  have t3 := (unhide X2).t.at (o := 3) (v := .int .i64 t.f3) rfl
  have t4 := (unhide X2).t.at (o := 4) (v := .int .i64 t.f4) rfl
  have t5 := (unhide X2).t.at (o := 5) (v := .string t.f5) rfl
  have t6 := (unhide X2).t.at (o := 6) (v := .string t.f6) rfl
  have tz := (unhide X2).t.lt
  have y0 := (unhide X2).r.at (o := 0) (v := .string ⟨#[]⟩) rfl
  have y1 := (unhide X2).r.at (o := 1) (v := .slice none 0 0) rfl
  have y2 := (unhide X2).r.at (o := 2) (v := .slice none 0 0) rfl
  have g0 := (unhide X2).r.froz 0
  have g1 := (unhide X2).r.froz 1
  have g2 := (unhide X2).r.froz 2
  have yz := (unhide X2).r.lt
  obtain ⟨tb, htb⟩ : ∃ b, b = V.termB t := ⟨_, rfl⟩
  have HTB := hide htb
  rw [← htb]
  clear htb
  cases tb
  · go_wp2_with fail
    exact bodyPost_ret (v := .agg #[.string ⟨#[]⟩, .slice none 0 0, .slice none 0 0]) (by simp [results, Tryz.results22, go_sem, y0, y1, y2]) rfl ⟨AttRet.zero (unhide HN1 (fun h => by have := (unhide HTB).symm; rw [h] at this; cases this)), set3B (unhide B2) (by omega) _ _ _⟩
  by_cases h20 : lt = 20
  · have H20 := hide (show T.length = 20 by rw [← unhide HLL]; exact h20)
    subst h20
    go_wp2_with fail
    exact bodyPost_ret (v := .agg #[.string ⟨#[]⟩, .slice none 0 0, .slice none 0 0]) (by simp [results, Tryz.results22, go_sem, y0, y1, y2]) rfl ⟨AttRet.zero (unhide HN2 (unhide H20)), set3B (unhide B2) (by omega) _ _ _⟩
  have OK := hide (unhide HY (unhide GC) (unhide HTB).symm (by rw [← unhide HLL]; exact h20))
  have d20 : ((lt : Int) == 20) = false := by simp; omega
  have L19 := hide (show lt ≤ 19 by omega)
  clear HN HN1 HN2 HY HTB h20
  go_upto_region 4 with fail
  clear x0 x1 x2 xz t0 t1 t2 t3 t4 t5 t6 tz y0 y1 y2 g0 g1 g2 yz d20
  have z0 := (unhide E2).size
  refine wp_region_held_drew (S := fun w' => BxS w' w.heap.size id at' ag lt ct G.length cg t) (by kernel_rfl) (((unhide X2).keep (Below.refl _ _).drew).s) (fun hHeld => ?_)
  refine takeA (i := 0) (v := .pointer (some ⟨w.heap.size, 0, none⟩)) (d := some 21) rfl (by kernel_rfl) (by kernel_rfl) (by kernel_rfl) (by kernel_rfl) (fun _ _ _ h => h) (.inl ⟨by kernel_rfl, fun w hSw => ?_⟩) (by assumption) ?_
  · obtain ⟨⟨s0, s1, s2⟩, s3, s4, s5, s6, s7, s8, s9⟩ := hSw
    go_simp
  try simp only [Act.put, List.setIfInBounds_toArray, List.set_cons_zero, List.set_cons_succ]
  refine takeA (i := 1) (v := .string id) (d := some 22) rfl (by kernel_rfl) (by kernel_rfl) (by kernel_rfl) (by kernel_rfl) (fun _ _ _ h => h) (.inl ⟨by kernel_rfl, fun w hSw => ?_⟩) (by assumption) ?_
  · obtain ⟨⟨s0, s1, s2⟩, s3, s4, s5, s6, s7, s8, s9⟩ := hSw
    go_simp
  try simp only [Act.put, List.setIfInBounds_toArray, List.set_cons_zero, List.set_cons_succ]
  refine takeA (i := 2) (v := .slice none 0 0) (d := some 23) rfl (by kernel_rfl) (by kernel_rfl) (by kernel_rfl) (by kernel_rfl) (fun _ _ _ h => h) (.inl ⟨by kernel_rfl, fun w hSw => ?_⟩) (by assumption) ?_
  · obtain ⟨⟨s0, s1, s2⟩, s3, s4, s5, s6, s7, s8, s9⟩ := hSw
    go_simp
  try simp only [Act.put, List.setIfInBounds_toArray, List.set_cons_zero, List.set_cons_succ]
  refine takeA (i := 3) (v := .pointer (some ⟨w.heap.size, 1, none⟩)) (d := some 24) rfl (by kernel_rfl) (by kernel_rfl) (by kernel_rfl) (by kernel_rfl) (fun _ _ _ h => h) (.inl ⟨by kernel_rfl, fun w hSw => ?_⟩) (by assumption) ?_
  · obtain ⟨⟨s0, s1, s2⟩, s3, s4, s5, s6, s7, s8, s9⟩ := hSw
    go_simp
  try simp only [Act.put, List.setIfInBounds_toArray, List.set_cons_zero, List.set_cons_succ]
  refine takeA (i := 4) (v := .slice at' lt ct) (d := some 25) rfl (by kernel_rfl) (by kernel_rfl) (by kernel_rfl) (by kernel_rfl) (fun _ _ _ h => h) (.inl ⟨by kernel_rfl, fun w hSw => ?_⟩) (by assumption) ?_
  · obtain ⟨⟨s0, s1, s2⟩, s3, s4, s5, s6, s7, s8, s9⟩ := hSw
    go_simp
  try simp only [Act.put, List.setIfInBounds_toArray, List.set_cons_zero, List.set_cons_succ]
  refine takeA (i := 6) (v := .agg #[.string t.f0, .int .i64 t.f1, .string t.f2, .int .i64 t.f3, .int .i64 t.f4, .string t.f5, .string t.f6]) (d := some 27) rfl (by kernel_rfl) (by kernel_rfl) (by kernel_rfl) (by kernel_rfl) (fun _ _ _ h => h) (.inl ⟨by kernel_rfl, fun w hSw => ?_⟩) (by assumption) ?_
  · obtain ⟨⟨s0, s1, s2⟩, s3, s4, s5, s6, s7, s8, s9⟩ := hSw
    go_simp
  try simp only [Act.put, List.setIfInBounds_toArray, List.set_cons_zero, List.set_cons_succ]
  refine takeA (i := 9) (v := .pointer (some ⟨w.heap.size, 2, none⟩)) (d := some 30) rfl (by kernel_rfl) (by kernel_rfl) (by kernel_rfl) (by kernel_rfl) (fun _ _ _ h => h) (.inl ⟨by kernel_rfl, fun w hSw => ?_⟩) (by assumption) ?_
  · obtain ⟨⟨s0, s1, s2⟩, s3, s4, s5, s6, s7, s8, s9⟩ := hSw
    go_simp
  try simp only [Act.put, List.setIfInBounds_toArray, List.set_cons_zero, List.set_cons_succ]
  refine takeA (i := 10) (v := .slice ag G.length cg) (d := some 31) rfl (by kernel_rfl) (by kernel_rfl) (by kernel_rfl) (by kernel_rfl) (fun _ _ _ h => h) (.inl ⟨by kernel_rfl, fun w hSw => ?_⟩) (by assumption) ?_
  · obtain ⟨⟨s0, s1, s2⟩, s3, s4, s5, s6, s7, s8, s9⟩ := hSw
    go_simp
  try simp only [Act.put, List.setIfInBounds_toArray, List.set_cons_zero, List.set_cons_succ]
  refine takeA (i := 11) (v := .agg #[.string t.f0, .int .i64 t.f1, .string t.f2, .int .i64 t.f3, .int .i64 t.f4, .string t.f5, .string t.f6]) (d := some 32) rfl (by kernel_rfl) (by kernel_rfl) (by kernel_rfl) (by kernel_rfl) (fun _ _ _ h => h) (.inl ⟨by kernel_rfl, fun w hSw => ?_⟩) (by assumption) ?_
  · obtain ⟨⟨s0, s1, s2⟩, s3, s4, s5, s6, s7, s8, s9⟩ := hSw
    go_simp
  try simp only [Act.put, List.setIfInBounds_toArray, List.set_cons_zero, List.set_cons_succ]
  have ED := hide ((unhide E2).drew)
  clear X2 S2 SG2 B2 z0 hHeld
  refine wpAnyH_ready (rs := [5, 7]) (by kernel_rfl) (by simp) ?_
  refine AllReadyH.cons (by rfl) (fun K hK => ?_) (AllReadyH.cons (by rfl) (fun K hK => ?_) AllReadyH.nil)
  · refine step_app _ (by rfl) _ _ _ (by rfl) W.heap.size 58 i0 _ 7 88 Tryz.underlying36 hi hz0 hz1 hz2 rfl (by omega) (.slice none 0 0) 0 [] (by rfl) (World.ownsRow_nil _ _ _ _) at' lt ct (V.CavTermsV T) (by rfl) (fun h => by have h1 := unhide HNIL h; have h2 := unhide HCT; omega) (by rw [terms_len, unhide HLL]) (ct_news ((unhide SW).keep (unhide ED))) (terms_one T) (by unfold maxLen; omega) (by omega) (unhide ED).size ?_
    intro v5 w5 hown hgrow
    have E5 := hide ((unhide ED).grown hgrow (unhide ED).size (fun k hk => by cases hk))
    have O5 := hide (show w5.ownsRow W.heap.size 58 7 v5 lt (V.CavTermsV T) by simpa using hown)
    try dsimp only
    refine hK.out _ _ (((unhide XW).keep (unhide E5)).s) (fun hH5 => ?_)
    clear hK K
    try simp only [Act.put, List.setIfInBounds_toArray, List.set_cons_zero, List.set_cons_succ]
    refine wpAnyH_ready (rs := [7]) (by kernel_rfl) (by simp) ?_
    refine AllReadyH.cons (by rfl) (fun K hK => ?_) AllReadyH.nil
    go_simp
    obtain ⟨w7, hw7⟩ : ∃ W', W' = World.alloc w5 (.cells #[.string t.f0, .int .i64 t.f1, .string t.f2, .int .i64 t.f3, .int .i64 t.f4, .string t.f5, .string t.f6] 58) := ⟨_, rfl⟩
    have E7 := hide (show Below W.heap.size W w7 by rw [hw7]; exact (unhide E5).alloc (unhide E5).size _)
    have N7 := hide (show RowIs w7 w5.heap.size #[.string t.f0, .int .i64 t.f1, .string t.f2, .int .i64 t.f3, .int .i64 t.f4, .string t.f5, .string t.f6] 58 by rw [hw7]; exact RowIs.new _ _ _)
    have O7 := hide (show w7.ownsRow W.heap.size 58 7 v5 lt (V.CavTermsV T) by rw [hw7]; exact (unhide O5).alloc _)
    try rw [show (World.drew w2).heap.size = w2.heap.size from rfl]
    rw [← hw7]
    clear hw7
    try dsimp only
    refine hK.out _ _ (((unhide XW).keep (unhide E7)).s) (fun hH7 => ?_)
    clear hK K
    try simp only [Act.put, List.setIfInBounds_toArray, List.set_cons_zero, List.set_cons_succ]
    refine wpAnyH_ready (rs := [8]) (by kernel_rfl) (by simp) ?_
    refine AllReadyH.cons (by rfl) (fun K hK => ?_) AllReadyH.nil
    refine step_app _ (by rfl) _ _ _ (by rfl) W.heap.size 58 i0 _ 7 88 Tryz.underlying36 hi hz0 hz1 hz2 rfl (by omega) v5 lt (V.CavTermsV T) (by rfl) (unhide O7) (some ⟨w5.heap.size, 0, none⟩) 1 1 (#[.string t.f0, .int .i64 t.f1, .string t.f2, .int .i64 t.f3, .int .i64 t.f4, .string t.f5, .string t.f6] : Array Value).toList (by rfl) (fun h => by cases h) (by rfl) (fun ad h => by cases h; exact World.news_of_block (unhide N7)) (by intro u hu; simp at hu; rcases hu with rfl | rfl | rfl | rfl | rfl | rfl | rfl <;> rfl) (by unfold maxLen; omega) (by omega) (unhide E7).size ?_
    intro v8 w8 hown hgrow
    have E8 := hide ((unhide E7).grown hgrow (unhide E7).size (fun k hk => ((unhide O7).lt k hk).1))
    have O8 := hide (show w8.ownsRow W.heap.size 58 7 v8 (T ++ [t]).length (V.CavTermsV (T ++ [t])) by rw [List.length_append, ← unhide HLL, ← enc_snoc]; exact hown)
    clear hown hgrow
    try dsimp only
    refine hK.out _ _ (((unhide XW).keep (unhide E8)).s) (fun hH8 => ?_)
    clear hK K
    try simp only [Act.put, List.setIfInBounds_toArray, List.set_cons_zero, List.set_cons_succ]
    refine wpAnyH_ready (rs := [12]) (by kernel_rfl) (by simp) ?_
    refine AllReadyH.cons (by rfl) (fun K hK => ?_) AllReadyH.nil
    go_simp
    refine (unhide qT _).mono ?_
    rintro e w9 ⟨rfl, hb9⟩
    have E9 := hide ((unhide E8).trans (hb9.mono (unhide E8).size))
    have O9 := hide (own_keepA (unhide O8) hb9)
    obtain ⟨X, hX⟩ : ∃ X, X = V.termX t := ⟨_, rfl⟩
    have zX : X.size ≤ 2000 := by rw [hX]; have := V.termX_leA t (unhide HOT); omega
    have HX := hide hX
    rw [← hX]
    clear hX
    obtain ⟨cap10, w10, cv, hb10, hs10⟩ := conv_bytesA X w9
    have E10 := hide ((unhide E9).trans (hb10.mono (unhide E9).size))
    have O10 := hide (own_keepA (unhide O9) hb10)
    have S10 := hide hs10
    clear hb9 hb10 hs10 hH8
    try dsimp only
    refine hK.out _ _ (((unhide XW).keep (unhide E9)).s) (fun hH9 => ?_)
    clear hK K
    try simp only [Act.put, List.setIfInBounds_toArray, List.set_cons_zero, List.set_cons_succ]
    refine wpAnyH_ready (rs := [13]) (by kernel_rfl) (by simp) ?_
    refine AllReadyH.cons (by rfl) (fun K hK => ?_) AllReadyH.nil
    go_simp
    try dsimp only
    refine hK.out _ _ (((unhide XW).keep (unhide E10)).s) (fun hH10 => ?_)
    clear hK K
    try simp only [Act.put, List.setIfInBounds_toArray, List.set_cons_zero, List.set_cons_succ]
    refine wpAnyH_ready (rs := [14]) (by kernel_rfl) (by simp) ?_
    refine AllReadyH.cons (by rfl) (fun K hK => ?_) AllReadyH.nil
    go_simp
    refine (l2Mac_any ag _ G.length cg X.size cap10 G X.data.toList w10 (unhide HZ) (by omega) (((unhide SGW).keep (unhide E10)).mono (unhide E10).size) (unhide S10)).mono ?_
    rintro e w14 ⟨v14, D, hD, rfl, hown14, hb14⟩
    have E14 := hide ((unhide E10).trans (hb14.mono (unhide E10).size))
    have O14 := hide (own_keepA (unhide O10) hb14)
    have P14 := hide (own_baseA hown14 (unhide E10).size)
    have HD := hide (show D = mac G (V.termX t).data.toList by rw [← unhide HX]; exact unhide hD)
    obtain ⟨a8, c8, rfl⟩ := own_form (unhide O14)
    obtain ⟨a14, c14, rfl⟩ := own_form (unhide P14)
    clear hb14 hown14 hD S10 cv
    try dsimp only
    refine hK.out _ _ (((unhide XW).keep (unhide E14)).s) (fun hH14 => ?_)
    clear hK K
    try simp only [Act.put, List.setIfInBounds_toArray, List.set_cons_zero, List.set_cons_succ]
    refine takeA (i := 15) (v := .agg #[.string id, .slice a8 (T ++ [t]).length c8, .slice a14 D.length c14]) (d := some 36) rfl (by kernel_rfl) (by kernel_rfl) (by kernel_rfl) (by kernel_rfl) (fun _ _ _ h => h) (.inl ⟨by kernel_rfl, fun w hSw => ?_⟩) (by assumption) ?_
    · obtain ⟨⟨s0, s1, s2⟩, s3, s4, s5, s6, s7, s8, s9⟩ := hSw
      go_simp
    try simp only [Act.put, List.setIfInBounds_toArray, List.set_cons_zero, List.set_cons_succ]
    have X14 := hide ((unhide XW).keep (unhide E14))
    have y0 := (unhide X14).r.at (o := 0) (v := .string ⟨#[]⟩) rfl
    have y1 := (unhide X14).r.at (o := 1) (v := .slice none 0 0) rfl
    have y2 := (unhide X14).r.at (o := 2) (v := .slice none 0 0) rfl
    have g0 := (unhide X14).r.froz 0
    have g1 := (unhide X14).r.froz 1
    have g2 := (unhide X14).r.froz 2
    have yz := (unhide X14).r.lt
    refine wpAnyH_ready (rs := [16]) (by kernel_rfl) (by simp) ?_
    refine AllReadyH.cons (by rfl) (fun K hK => ?_) AllReadyH.nil
    go_simp
    try dsimp only
    refine hK.out _ _ ((unhide X14).set3 _ _ _) (fun hHs => ?_)
    clear hK K
    refine wpAnyH_done (by kernel_rfl) ?_ _
    go_wp2_with fail
    exact bodyPost_ret (v := .agg #[.string id, .slice a8 (T ++ [t]).length c8, .slice a14 D.length c14]) (by simp [results, Tryz.results22, go_sem, y0, y1, y2]) rfl ⟨⟨_, _, id, T ++ [t], D, ⟨fun _ => ⟨rfl, rfl, unhide HD⟩, fun n => absurd (unhide OK) n⟩, rfl, own_set3A (unhide O14) (unhide B0).size (by have := unhide ZW; omega), own_set3A (unhide P14) (unhide B0).size (by have := unhide ZW; omega)⟩, set3B ((unhide B0).trans ((unhide E14).mono (unhide B0).size)) (by omega) _ _ _⟩
  · go_simp
    obtain ⟨w7, hw7⟩ : ∃ W', W' = World.drew (World.alloc w2 (.cells #[.string t.f0, .int .i64 t.f1, .string t.f2, .int .i64 t.f3, .int .i64 t.f4, .string t.f5, .string t.f6] 58)) := ⟨_, rfl⟩
    have E7 := hide (show Below W.heap.size W w7 by rw [hw7]; exact ((unhide E2).alloc (unhide E2).size _).drew)
    have N7 := hide (show RowIs w7 w2.heap.size #[.string t.f0, .int .i64 t.f1, .string t.f2, .int .i64 t.f3, .int .i64 t.f4, .string t.f5, .string t.f6] 58 by rw [hw7]; exact (RowIs.new _ _ _).keep (Below.refl _ _).drew)
    rw [← hw7]
    clear hw7
    try dsimp only
    refine hK.out _ _ (((unhide XW).keep (unhide E7)).s) (fun hH7 => ?_)
    clear hK K
    try simp only [Act.put, List.setIfInBounds_toArray, List.set_cons_zero, List.set_cons_succ]
    refine wpAnyH_ready (rs := [5]) (by kernel_rfl) (by simp) ?_
    refine AllReadyH.cons (by rfl) (fun K hK => ?_) AllReadyH.nil
    refine step_app _ (by rfl) _ _ _ (by rfl) W.heap.size 58 i0 _ 7 88 Tryz.underlying36 hi hz0 hz1 hz2 rfl (by omega) (.slice none 0 0) 0 [] (by rfl) (World.ownsRow_nil _ _ _ _) at' lt ct (V.CavTermsV T) (by rfl) (fun h => by have h1 := unhide HNIL h; have h2 := unhide HCT; omega) (by rw [terms_len, unhide HLL]) (ct_news ((unhide SW).keep (unhide E7))) (terms_one T) (by unfold maxLen; omega) (by omega) (unhide E7).size ?_
    intro v5 w5 hown hgrow
    have E5 := hide ((unhide E7).grown hgrow (unhide E7).size (fun k hk => by cases hk))
    have O5 := hide (show w5.ownsRow W.heap.size 58 7 v5 lt (V.CavTermsV T) by simpa using hown)
    have N5 := hide (show RowIs w5 w2.heap.size #[.string t.f0, .int .i64 t.f1, .string t.f2, .int .i64 t.f3, .int .i64 t.f4, .string t.f5, .string t.f6] 58 from RowIs.keepA (unhide N7) hgrow)
    clear hown hgrow
    try dsimp only
    refine hK.out _ _ (((unhide XW).keep (unhide E5)).s) (fun hH5 => ?_)
    clear hK K
    try simp only [Act.put, List.setIfInBounds_toArray, List.set_cons_zero, List.set_cons_succ]
    refine wpAnyH_ready (rs := [8]) (by kernel_rfl) (by simp) ?_
    refine AllReadyH.cons (by rfl) (fun K hK => ?_) AllReadyH.nil
    refine step_app _ (by rfl) _ _ _ (by rfl) W.heap.size 58 i0 _ 7 88 Tryz.underlying36 hi hz0 hz1 hz2 rfl (by omega) v5 lt (V.CavTermsV T) (by rfl) (unhide O5) (some ⟨w2.heap.size, 0, none⟩) 1 1 (#[.string t.f0, .int .i64 t.f1, .string t.f2, .int .i64 t.f3, .int .i64 t.f4, .string t.f5, .string t.f6] : Array Value).toList (by rfl) (fun h => by cases h) (by rfl) (fun ad h => by cases h; exact World.news_of_block (unhide N5)) (by intro u hu; simp at hu; rcases hu with rfl | rfl | rfl | rfl | rfl | rfl | rfl <;> rfl) (by unfold maxLen; omega) (by omega) (unhide E5).size ?_
    intro v8 w8 hown hgrow
    have E8 := hide ((unhide E5).grown hgrow (unhide E5).size (fun k hk => ((unhide O5).lt k hk).1))
    have O8 := hide (show w8.ownsRow W.heap.size 58 7 v8 (T ++ [t]).length (V.CavTermsV (T ++ [t])) by rw [List.length_append, ← unhide HLL, ← enc_snoc]; exact hown)
    clear hown hgrow
    try dsimp only
    refine hK.out _ _ (((unhide XW).keep (unhide E8)).s) (fun hH8 => ?_)
    clear hK K
    try simp only [Act.put, List.setIfInBounds_toArray, List.set_cons_zero, List.set_cons_succ]
    refine wpAnyH_ready (rs := [12]) (by kernel_rfl) (by simp) ?_
    refine AllReadyH.cons (by rfl) (fun K hK => ?_) AllReadyH.nil
    go_simp
    refine (unhide qT _).mono ?_
    rintro e w9 ⟨rfl, hb9⟩
    have E9 := hide ((unhide E8).trans (hb9.mono (unhide E8).size))
    have O9 := hide (own_keepA (unhide O8) hb9)
    obtain ⟨X, hX⟩ : ∃ X, X = V.termX t := ⟨_, rfl⟩
    have zX : X.size ≤ 2000 := by rw [hX]; have := V.termX_leA t (unhide HOT); omega
    have HX := hide hX
    rw [← hX]
    clear hX
    obtain ⟨cap10, w10, cv, hb10, hs10⟩ := conv_bytesA X w9
    have E10 := hide ((unhide E9).trans (hb10.mono (unhide E9).size))
    have O10 := hide (own_keepA (unhide O9) hb10)
    have S10 := hide hs10
    clear hb9 hb10 hs10 hH8
    try dsimp only
    refine hK.out _ _ (((unhide XW).keep (unhide E9)).s) (fun hH9 => ?_)
    clear hK K
    try simp only [Act.put, List.setIfInBounds_toArray, List.set_cons_zero, List.set_cons_succ]
    refine wpAnyH_ready (rs := [13]) (by kernel_rfl) (by simp) ?_
    refine AllReadyH.cons (by rfl) (fun K hK => ?_) AllReadyH.nil
    go_simp
    try dsimp only
    refine hK.out _ _ (((unhide XW).keep (unhide E10)).s) (fun hH10 => ?_)
    clear hK K
    try simp only [Act.put, List.setIfInBounds_toArray, List.set_cons_zero, List.set_cons_succ]
    refine wpAnyH_ready (rs := [14]) (by kernel_rfl) (by simp) ?_
    refine AllReadyH.cons (by rfl) (fun K hK => ?_) AllReadyH.nil
    go_simp
    refine (l2Mac_any ag _ G.length cg X.size cap10 G X.data.toList w10 (unhide HZ) (by omega) (((unhide SGW).keep (unhide E10)).mono (unhide E10).size) (unhide S10)).mono ?_
    rintro e w14 ⟨v14, D, hD, rfl, hown14, hb14⟩
    have E14 := hide ((unhide E10).trans (hb14.mono (unhide E10).size))
    have O14 := hide (own_keepA (unhide O10) hb14)
    have P14 := hide (own_baseA hown14 (unhide E10).size)
    have HD := hide (show D = mac G (V.termX t).data.toList by rw [← unhide HX]; exact unhide hD)
    obtain ⟨a8, c8, rfl⟩ := own_form (unhide O14)
    obtain ⟨a14, c14, rfl⟩ := own_form (unhide P14)
    clear hb14 hown14 hD S10 cv
    try dsimp only
    refine hK.out _ _ (((unhide XW).keep (unhide E14)).s) (fun hH14 => ?_)
    clear hK K
    try simp only [Act.put, List.setIfInBounds_toArray, List.set_cons_zero, List.set_cons_succ]
    refine takeA (i := 15) (v := .agg #[.string id, .slice a8 (T ++ [t]).length c8, .slice a14 D.length c14]) (d := some 36) rfl (by kernel_rfl) (by kernel_rfl) (by kernel_rfl) (by kernel_rfl) (fun _ _ _ h => h) (.inl ⟨by kernel_rfl, fun w hSw => ?_⟩) (by assumption) ?_
    · obtain ⟨⟨s0, s1, s2⟩, s3, s4, s5, s6, s7, s8, s9⟩ := hSw
      go_simp
    try simp only [Act.put, List.setIfInBounds_toArray, List.set_cons_zero, List.set_cons_succ]
    have X14 := hide ((unhide XW).keep (unhide E14))
    have y0 := (unhide X14).r.at (o := 0) (v := .string ⟨#[]⟩) rfl
    have y1 := (unhide X14).r.at (o := 1) (v := .slice none 0 0) rfl
    have y2 := (unhide X14).r.at (o := 2) (v := .slice none 0 0) rfl
    have g0 := (unhide X14).r.froz 0
    have g1 := (unhide X14).r.froz 1
    have g2 := (unhide X14).r.froz 2
    have yz := (unhide X14).r.lt
    refine wpAnyH_ready (rs := [16]) (by kernel_rfl) (by simp) ?_
    refine AllReadyH.cons (by rfl) (fun K hK => ?_) AllReadyH.nil
    go_simp
    try dsimp only
    refine hK.out _ _ ((unhide X14).set3 _ _ _) (fun hHs => ?_)
    clear hK K
    refine wpAnyH_done (by kernel_rfl) ?_ _
    go_wp2_with fail
    exact bodyPost_ret (v := .agg #[.string id, .slice a8 (T ++ [t]).length c8, .slice a14 D.length c14]) (by simp [results, Tryz.results22, go_sem, y0, y1, y2]) rfl ⟨⟨_, _, id, T ++ [t], D, ⟨fun _ => ⟨rfl, rfl, unhide HD⟩, fun n => absurd (unhide OK) n⟩, rfl, own_set3A (unhide O14) (unhide B0).size (by have := unhide ZW; omega), own_set3A (unhide P14) (unhide B0).size (by have := unhide ZW; omega)⟩, set3B ((unhide B0).trans ((unhide E14).mono (unhide B0).size)) (by omega) _ _ _⟩

set_option maxHeartbeats 8000000 in
theorem iAttenuate_any (id : ByteArray) (at' ag : Option Addr) (lt ct cg : Nat) (T : List V.CavTermT) (G : List UInt8) (t : V.CavTermT) (w : World) (hid : id.size ≤ maxLen) (hl : lt ≤ 1048576) (hs : V.SlCavTerm w at' lt T) (ok : ∀ q ∈ T, V.CavTermT.Ok q) (hg : SlB w w.heap.size ag G.length G) (hz : G.length ≤ 1048576) (okt : t.Ok) (hct : lt ≤ ct) (hnil : at' = none → ct = 0) (hM : Mults w) (hSg : V.Signs w) (hT : Tab w) :
    Calls Tryz.prog 55 #[V.capV id at' ag lt ct G.length cg, .agg #[.string t.f0, .int .i64 t.f1, .string t.f2, .int .i64 t.f3, .int .i64 t.f4, .string t.f5, .string t.f6]] w fun e w' => AttRet id T G t w.heap.size e w' ∧ Below w.heap.size w w' := by
  obtain ⟨i0, hi, hz0, hz1, hz2⟩ := info_partsA V.info_CavTerm
  obtain ⟨W, hW⟩ : ∃ W, W = ((w.alloc (.cells (V.capC id at' ag lt ct G.length cg) 38)).alloc (.cells #[.string t.f0, .int .i64 t.f1, .string t.f2, .int .i64 t.f3, .int .i64 t.f4, .string t.f5, .string t.f6] 58)).alloc (.cells #[.string ⟨#[]⟩, .slice none 0 0, .slice none 0 0] 38) := ⟨_, rfl⟩
  have B0 := hide (show Below w.heap.size w W by rw [hW]; exact bAl (bAl (bAl (Below.refl _ _) _) _) _)
  have ZW := hide (show W.heap.size = w.heap.size + 1 + 1 + 1 by rw [hW]; simp)
  have X := hide (show Bx W w.heap.size id at' ag lt ct G.length cg t from ⟨by rw [hW]; exact ((RowIs.new w _ _).keep (bAl (Below.refl _ _) _)).keep (bAl (Below.refl _ _) _), by
      rw [hW]
      have := (RowIs.new (w.alloc (.cells (V.capC id at' ag lt ct G.length cg) 38)) #[.string t.f0, .int .i64 t.f1, .string t.f2, .int .i64 t.f3, .int .i64 t.f4, .string t.f5, .string t.f6] 58).keep (bAl (Below.refl _ _) (.cells #[.string ⟨#[]⟩, .slice none 0 0, .slice none 0 0] 38))
      simpa using this, by
      rw [hW]
      have := RowIs.new ((w.alloc (.cells (V.capC id at' ag lt ct G.length cg) 38)).alloc (.cells #[.string t.f0, .int .i64 t.f1, .string t.f2, .int .i64 t.f3, .int .i64 t.f4, .string t.f5, .string t.f6] 58)) #[.string ⟨#[]⟩, .slice none 0 0, .slice none 0 0] 38
      simpa using this⟩)
  have S := hide (hs.keep (unhide B0))
  have SG := hide ((hg.keep (unhide B0)).mono (unhide B0).size)
  have HW := hide hW.symm
  have HLL := hide hs.1
  have HO := hide ok
  have HZ := hide hz
  have HOT := hide okt
  have q0 := hide (fun w (hs : V.SlCavTerm w at' lt T) => V.isGood_any id at' ag lt ct G.length cg T w hid (by rw [← hs.1]; unfold maxLen; omega) hs ok)
  have q1 := hide (fun w => V.isCapTerm_any t w okt)
  have HN := hide (fun (h : ¬ V.GoodC id T G.length) (k : AttP id T t G.length) => h k.1)
  have HN1 := hide (fun (h : ¬ V.termB t = true) (k : AttP id T t G.length) => h k.2.1)
  have HN2 := hide (fun (h : T.length = 20) (k : AttP id T t G.length) => k.2.2 h)
  have HY := hide (fun (h1 : V.GoodC id T G.length) (h2 : V.termB t = true) (h3 : T.length ≠ 20) => show AttP id T t G.length from ⟨h1, h2, h3⟩)
  have qT := hide (fun w hS hT => V.iTermText_any t w okt hS hT)
  have M0 := hide (hM.keepB (unhide B0) hM.1)
  have G0 := hide (hSg.keep (unhide B0))
  have T0 := hide (hT.keep (unhide B0))
  clear hM hSg hT
  have XW := X
  have SW := S
  have SGW := SG
  have HNIL := hide hnil
  have HCT := hide hct
  clear hW hs ok hg hid okt hz hnil hct
  have x0 := (unhide X).c.at (o := 0) (v := .string id) rfl
  have x1 := (unhide X).c.at (o := 1) (v := .slice at' lt ct) rfl
  have x2 := (unhide X).c.at (o := 2) (v := .slice ag G.length cg) rfl
  have xz := (unhide X).c.lt
  have t0 := (unhide X).t.at (o := 0) (v := .string t.f0) rfl
  have t1 := (unhide X).t.at (o := 1) (v := .int .i64 t.f1) rfl
  have t2 := (unhide X).t.at (o := 2) (v := .string t.f2) rfl
  have t3 := (unhide X).t.at (o := 3) (v := .int .i64 t.f3) rfl
  have t4 := (unhide X).t.at (o := 4) (v := .int .i64 t.f4) rfl
  have t5 := (unhide X).t.at (o := 5) (v := .string t.f5) rfl
  have t6 := (unhide X).t.at (o := 6) (v := .string t.f6) rfl
  have tz := (unhide X).t.lt
  have y0 := (unhide X).r.at (o := 0) (v := .string ⟨#[]⟩) rfl
  have y1 := (unhide X).r.at (o := 1) (v := .slice none 0 0) rfl
  have y2 := (unhide X).r.at (o := 2) (v := .slice none 0 0) rfl
  have g0 := (unhide X).r.froz 0
  have g1 := (unhide X).r.froz 1
  have g2 := (unhide X).r.froz 2
  have yz := (unhide X).r.lt
  go_enter Tryz.func55, Tryz.ntmps55
  go_upto_region 1 with fail
  rw [unhide HW]
  go_wp2_with fail
  clear x0 x1 x2 xz t0 t1 t2 t3 t4 t5 t6 tz y0 y1 y2 g0 g1 g2 yz
  refine (unhide q0 _ (unhide S)).mono ?_
  rintro e w1 ⟨⟨b, rfl, hb⟩, hb1⟩
  have HB := hide hb
  have B1 := hide (bTr (unhide B0) hb1)
  have E1 := hide hb1
  have X1 := hide ((unhide X).keep hb1)
  have S1 := hide ((unhide S).keep hb1)
  have SG1 := hide (((unhide SG).keep hb1).mono hb1.size)
  have M1 := hide ((unhide M0).keepB hb1 (unhide M0).1)
  have G1 := hide ((unhide G0).keep hb1)
  have T1 := hide ((unhide T0).keep hb1)
  clear hb hb1 X S SG q0 HW
  have x0 := (unhide X1).c.at (o := 0) (v := .string id) rfl
  have x1 := (unhide X1).c.at (o := 1) (v := .slice at' lt ct) rfl
  have x2 := (unhide X1).c.at (o := 2) (v := .slice ag G.length cg) rfl
  have xz := (unhide X1).c.lt
  have t0 := (unhide X1).t.at (o := 0) (v := .string t.f0) rfl
  have t1 := (unhide X1).t.at (o := 1) (v := .int .i64 t.f1) rfl
  have t2 := (unhide X1).t.at (o := 2) (v := .string t.f2) rfl
  have t3 := (unhide X1).t.at (o := 3) (v := .int .i64 t.f3) rfl
  have t4 := (unhide X1).t.at (o := 4) (v := .int .i64 t.f4) rfl
  have t5 := (unhide X1).t.at (o := 5) (v := .string t.f5) rfl
  have t6 := (unhide X1).t.at (o := 6) (v := .string t.f6) rfl
  have tz := (unhide X1).t.lt
  have y0 := (unhide X1).r.at (o := 0) (v := .string ⟨#[]⟩) rfl
  have y1 := (unhide X1).r.at (o := 1) (v := .slice none 0 0) rfl
  have y2 := (unhide X1).r.at (o := 2) (v := .slice none 0 0) rfl
  have g0 := (unhide X1).r.froz 0
  have g1 := (unhide X1).r.froz 1
  have g2 := (unhide X1).r.froz 2
  have yz := (unhide X1).r.lt
  cases b
  · go_wp2_with fail
    exact bodyPost_ret (v := .agg #[.string ⟨#[]⟩, .slice none 0 0, .slice none 0 0]) (by simp [results, Tryz.results55, go_sem, y0, y1, y2]) rfl ⟨AttRet.zero (unhide HN (fun h => by have := (unhide HB).2 h; cases this)), set3B (unhide B1) (by omega) _ _ _⟩
  have GC := hide ((unhide HB).1 (by trivial))
  clear HB
  have L20 : lt ≤ 20 := by have h1 := (unhide GC).2.1.1; have h2 := unhide HLL; omega
  go_wp2_with fail
  clear x0 x1 x2 xz t0 t1 t2 t3 t4 t5 t6 tz y0 y1 y2 g0 g1 g2 yz
  refine (unhide q1 _).mono ?_
  rintro e w2 ⟨rfl, hb2⟩
  have B2 := hide (bTr (unhide B1) hb2)
  have E2 := hide (bTr (unhide E1) hb2)
  have X2 := hide ((unhide X1).keep hb2)
  have S2 := hide ((unhide S1).keep hb2)
  have SG2 := hide (((unhide SG1).keep hb2).mono hb2.size)
  have M2 := hide ((unhide M1).keepB hb2 (unhide M1).1)
  have G2 := hide ((unhide G1).keep hb2)
  have T2 := hide ((unhide T1).keep hb2)
  clear hb2 X1 S1 SG1 B1 E1 q1
  have x0 := (unhide X2).c.at (o := 0) (v := .string id) rfl
  have x1 := (unhide X2).c.at (o := 1) (v := .slice at' lt ct) rfl
  have x2 := (unhide X2).c.at (o := 2) (v := .slice ag G.length cg) rfl
  have xz := (unhide X2).c.lt
  have t0 := (unhide X2).t.at (o := 0) (v := .string t.f0) rfl
  have t1 := (unhide X2).t.at (o := 1) (v := .int .i64 t.f1) rfl
  have t2 := (unhide X2).t.at (o := 2) (v := .string t.f2) rfl
  have t3 := (unhide X2).t.at (o := 3) (v := .int .i64 t.f3) rfl
  have t4 := (unhide X2).t.at (o := 4) (v := .int .i64 t.f4) rfl
  have t5 := (unhide X2).t.at (o := 5) (v := .string t.f5) rfl
  have t6 := (unhide X2).t.at (o := 6) (v := .string t.f6) rfl
  have tz := (unhide X2).t.lt
  have y0 := (unhide X2).r.at (o := 0) (v := .string ⟨#[]⟩) rfl
  have y1 := (unhide X2).r.at (o := 1) (v := .slice none 0 0) rfl
  have y2 := (unhide X2).r.at (o := 2) (v := .slice none 0 0) rfl
  have g0 := (unhide X2).r.froz 0
  have g1 := (unhide X2).r.froz 1
  have g2 := (unhide X2).r.froz 2
  have yz := (unhide X2).r.lt
  obtain ⟨tb, htb⟩ : ∃ b, b = V.termB t := ⟨_, rfl⟩
  have HTB := hide htb
  rw [← htb]
  clear htb
  cases tb
  · go_wp2_with fail
    exact bodyPost_ret (v := .agg #[.string ⟨#[]⟩, .slice none 0 0, .slice none 0 0]) (by simp [results, Tryz.results55, go_sem, y0, y1, y2]) rfl ⟨AttRet.zero (unhide HN1 (fun h => by have := (unhide HTB).symm; rw [h] at this; cases this)), set3B (unhide B2) (by omega) _ _ _⟩
  by_cases h20 : lt = 20
  · have H20 := hide (show T.length = 20 by rw [← unhide HLL]; exact h20)
    subst h20
    go_wp2_with fail
    exact bodyPost_ret (v := .agg #[.string ⟨#[]⟩, .slice none 0 0, .slice none 0 0]) (by simp [results, Tryz.results55, go_sem, y0, y1, y2]) rfl ⟨AttRet.zero (unhide HN2 (unhide H20)), set3B (unhide B2) (by omega) _ _ _⟩
  have OK := hide (unhide HY (unhide GC) (unhide HTB).symm (by rw [← unhide HLL]; exact h20))
  have d20 : ((lt : Int) == 20) = false := by simp; omega
  have L19 := hide (show lt ≤ 19 by omega)
  clear HN HN1 HN2 HY HTB h20
  go_upto_region 4 with fail
  clear x0 x1 x2 xz t0 t1 t2 t3 t4 t5 t6 tz y0 y1 y2 g0 g1 g2 yz d20
  have z0 := (unhide E2).size
  refine wp_region_held_drew (S := fun w' => BxS w' w.heap.size id at' ag lt ct G.length cg t) (by kernel_rfl) (((unhide X2).keep (Below.refl _ _).drew).s) (fun hHeld => ?_)
  refine takeA (i := 0) (v := .pointer (some ⟨w.heap.size, 0, none⟩)) (d := some 22) rfl (by kernel_rfl) (by kernel_rfl) (by kernel_rfl) (by kernel_rfl) (fun _ _ _ h => h) (.inl ⟨by kernel_rfl, fun w hSw => ?_⟩) (by assumption) ?_
  · obtain ⟨⟨s0, s1, s2⟩, s3, s4, s5, s6, s7, s8, s9⟩ := hSw
    go_simp
  try simp only [Act.put, List.setIfInBounds_toArray, List.set_cons_zero, List.set_cons_succ]
  refine takeA (i := 1) (v := .string id) (d := some 23) rfl (by kernel_rfl) (by kernel_rfl) (by kernel_rfl) (by kernel_rfl) (fun _ _ _ h => h) (.inl ⟨by kernel_rfl, fun w hSw => ?_⟩) (by assumption) ?_
  · obtain ⟨⟨s0, s1, s2⟩, s3, s4, s5, s6, s7, s8, s9⟩ := hSw
    go_simp
  try simp only [Act.put, List.setIfInBounds_toArray, List.set_cons_zero, List.set_cons_succ]
  refine takeA (i := 2) (v := .pointer (some ⟨w.heap.size, 1, none⟩)) (d := some 24) rfl (by kernel_rfl) (by kernel_rfl) (by kernel_rfl) (by kernel_rfl) (fun _ _ _ h => h) (.inl ⟨by kernel_rfl, fun w hSw => ?_⟩) (by assumption) ?_
  · obtain ⟨⟨s0, s1, s2⟩, s3, s4, s5, s6, s7, s8, s9⟩ := hSw
    go_simp
  try simp only [Act.put, List.setIfInBounds_toArray, List.set_cons_zero, List.set_cons_succ]
  refine takeA (i := 3) (v := .slice at' lt ct) (d := some 25) rfl (by kernel_rfl) (by kernel_rfl) (by kernel_rfl) (by kernel_rfl) (fun _ _ _ h => h) (.inl ⟨by kernel_rfl, fun w hSw => ?_⟩) (by assumption) ?_
  · obtain ⟨⟨s0, s1, s2⟩, s3, s4, s5, s6, s7, s8, s9⟩ := hSw
    go_simp
  try simp only [Act.put, List.setIfInBounds_toArray, List.set_cons_zero, List.set_cons_succ]
  refine takeA (i := 4) (v := .int .i64 lt) (d := some 26) rfl (by kernel_rfl) (by kernel_rfl) (by kernel_rfl) (by kernel_rfl) (fun _ _ _ h => h) (.inl ⟨by kernel_rfl, fun w hSw => ?_⟩) (by assumption) ?_
  · obtain ⟨⟨s0, s1, s2⟩, s3, s4, s5, s6, s7, s8, s9⟩ := hSw
    go_simp
  try simp only [Act.put, List.setIfInBounds_toArray, List.set_cons_zero, List.set_cons_succ]
  refine takeA (i := 5) (v := .int .i64 lt) (d := some 27) rfl (by kernel_rfl) (by kernel_rfl) (by kernel_rfl) (by kernel_rfl) (fun _ _ _ h => h) (.inl ⟨by kernel_rfl, fun w hSw => ?_⟩) (by assumption) ?_
  · obtain ⟨⟨s0, s1, s2⟩, s3, s4, s5, s6, s7, s8, s9⟩ := hSw
    go_simp
  try simp only [Act.put, List.setIfInBounds_toArray, List.set_cons_zero, List.set_cons_succ]
  refine takeA (i := 7) (v := .agg #[.string t.f0, .int .i64 t.f1, .string t.f2, .int .i64 t.f3, .int .i64 t.f4, .string t.f5, .string t.f6]) (d := some 29) rfl (by kernel_rfl) (by kernel_rfl) (by kernel_rfl) (by kernel_rfl) (fun _ _ _ h => h) (.inl ⟨by kernel_rfl, fun w hSw => ?_⟩) (by assumption) ?_
  · obtain ⟨⟨s0, s1, s2⟩, s3, s4, s5, s6, s7, s8, s9⟩ := hSw
    go_simp
  try simp only [Act.put, List.setIfInBounds_toArray, List.set_cons_zero, List.set_cons_succ]
  refine takeA (i := 10) (v := .pointer (some ⟨w.heap.size, 2, none⟩)) (d := some 32) rfl (by kernel_rfl) (by kernel_rfl) (by kernel_rfl) (by kernel_rfl) (fun _ _ _ h => h) (.inl ⟨by kernel_rfl, fun w hSw => ?_⟩) (by assumption) ?_
  · obtain ⟨⟨s0, s1, s2⟩, s3, s4, s5, s6, s7, s8, s9⟩ := hSw
    go_simp
  try simp only [Act.put, List.setIfInBounds_toArray, List.set_cons_zero, List.set_cons_succ]
  refine takeA (i := 11) (v := .slice ag G.length cg) (d := some 33) rfl (by kernel_rfl) (by kernel_rfl) (by kernel_rfl) (by kernel_rfl) (fun _ _ _ h => h) (.inl ⟨by kernel_rfl, fun w hSw => ?_⟩) (by assumption) ?_
  · obtain ⟨⟨s0, s1, s2⟩, s3, s4, s5, s6, s7, s8, s9⟩ := hSw
    go_simp
  try simp only [Act.put, List.setIfInBounds_toArray, List.set_cons_zero, List.set_cons_succ]
  refine takeA (i := 12) (v := .agg #[.string t.f0, .int .i64 t.f1, .string t.f2, .int .i64 t.f3, .int .i64 t.f4, .string t.f5, .string t.f6]) (d := some 34) rfl (by kernel_rfl) (by kernel_rfl) (by kernel_rfl) (by kernel_rfl) (fun _ _ _ h => h) (.inl ⟨by kernel_rfl, fun w hSw => ?_⟩) (by assumption) ?_
  · obtain ⟨⟨s0, s1, s2⟩, s3, s4, s5, s6, s7, s8, s9⟩ := hSw
    go_simp
  try simp only [Act.put, List.setIfInBounds_toArray, List.set_cons_zero, List.set_cons_succ]
  have ED := hide ((unhide E2).drew)
  clear X2 S2 SG2 B2 z0 M2 G2 T2
  have hct := unhide HCT
  have ZN := hide (fun (h : at' = none) => show lt = 0 by have h1 := unhide HNIL h; have h2 := unhide HCT; omega)
  cases at' with
  | none =>
    have hz : lt = 0 := unhide ZN rfl
    replace ZN := hide hz
    clear hz
    refine takeA (i := 6) (v := .slice none lt lt) (d := some 28) rfl (by kernel_rfl) (by kernel_rfl) (by kernel_rfl) (by kernel_rfl) (fun _ _ _ h => h) (.inl ⟨by kernel_rfl, fun w hSw => ?_⟩) (by assumption) ?_
    · obtain ⟨⟨s0, s1, s2⟩, s3, s4, s5, s6, s7, s8, s9⟩ := hSw
      go_simp
    try simp only [Act.put, List.setIfInBounds_toArray, List.set_cons_zero, List.set_cons_succ]
    refine wpAnyH_ready (rs := [8]) (by kernel_rfl) (by simp) ?_
    refine AllReadyH.cons (by rfl) (fun K hK => ?_) AllReadyH.nil
    go_simp
    obtain ⟨w7, hw7⟩ : ∃ W', W' = World.drew (World.alloc w2 (.cells #[.string t.f0, .int .i64 t.f1, .string t.f2, .int .i64 t.f3, .int .i64 t.f4, .string t.f5, .string t.f6] 58)) := ⟨_, rfl⟩
    have E7 := hide (show Below W.heap.size W w7 by rw [hw7]; exact ((unhide E2).alloc (unhide E2).size _).drew)
    have N7 := hide (show RowIs w7 w2.heap.size #[.string t.f0, .int .i64 t.f1, .string t.f2, .int .i64 t.f3, .int .i64 t.f4, .string t.f5, .string t.f6] 58 by rw [hw7]; exact (RowIs.new _ _ _).keep (Below.refl _ _).drew)
    rw [← hw7]
    clear hw7
    try dsimp only
    refine hK.out _ _ (((unhide XW).keep (unhide E7)).s) (fun hH7 => ?_)
    clear hK K
    try simp only [Act.put, List.setIfInBounds_toArray, List.set_cons_zero, List.set_cons_succ]
    refine wpAnyH_ready (rs := [9]) (by kernel_rfl) (by simp) ?_
    refine AllReadyH.cons (by rfl) (fun K hK => ?_) AllReadyH.nil
    refine step_append_grows rfl _ _ 36 (by rfl) 58 i0 _ 7 88 Tryz.underlying36 hi hz0 hz1 hz2 rfl (by decide) none lt lt (V.CavTermsV T) (by rfl) (fun h => ⟨unhide ZN, unhide ZN⟩) (by rw [terms_len, unhide HLL]) (ct_news ((unhide SW).keep (unhide E7))) ⟨w2.heap.size, 0, none⟩ 1 1 (#[.string t.f0, .int .i64 t.f1, .string t.f2, .int .i64 t.f3, .int .i64 t.f4, .string t.f5, .string t.f6] : Array Value).toList (by rfl) (by rfl) (World.news_of_block (unhide N7)) (by intro u hu; simp at hu; rcases hu with rfl | rfl | rfl | rfl | rfl | rfl | rfl <;> rfl) (by omega) (by unfold maxLen; omega) (by omega) ?_
    intro v8 w8 hown hgrow
    have E8 := hide ((unhide E7).grown hgrow (unhide E7).size (fun k hk => by cases hk))
    have O8 := hide (show w8.ownsRow W.heap.size 58 7 v8 (T ++ [t]).length (V.CavTermsV (T ++ [t])) by rw [List.length_append, ← unhide HLL, ← enc_snoc]; exact own_baseA hown (unhide E7).size)
    clear hown hgrow
    try dsimp only
    refine hK.out _ _ (((unhide XW).keep (unhide E8)).s) (fun hH8 => ?_)
    clear hK K
    try simp only [Act.put, List.setIfInBounds_toArray, List.set_cons_zero, List.set_cons_succ]
    refine wpAnyH_ready (rs := [13]) (by kernel_rfl) (by simp) ?_
    refine AllReadyH.cons (by rfl) (fun K hK => ?_) AllReadyH.nil
    go_simp
    refine (unhide qT _ ((unhide G0).keep (unhide E8)) ((unhide T0).keep (unhide E8))).mono ?_
    rintro e w9 ⟨rfl, hb9⟩
    have E9 := hide ((unhide E8).trans (hb9.mono (unhide E8).size))
    have O9 := hide (own_keepA (unhide O8) hb9)
    obtain ⟨X, hX⟩ : ∃ X, X = V.termX t := ⟨_, rfl⟩
    have zX : X.size ≤ 2000 := by rw [hX]; have := V.termX_leA t (unhide HOT); omega
    have HX := hide hX
    rw [← hX]
    clear hX
    obtain ⟨cap10, w10, cv, hb10, hs10⟩ := conv_bytesA X w9
    have E10 := hide ((unhide E9).trans (hb10.mono (unhide E9).size))
    have O10 := hide (own_keepA (unhide O9) hb10)
    have S10 := hide hs10
    clear hb9 hb10 hs10 hH8
    try dsimp only
    refine hK.out _ _ (((unhide XW).keep (unhide E9)).s) (fun hH9 => ?_)
    clear hK K
    try simp only [Act.put, List.setIfInBounds_toArray, List.set_cons_zero, List.set_cons_succ]
    refine wpAnyH_ready (rs := [14]) (by kernel_rfl) (by simp) ?_
    refine AllReadyH.cons (by rfl) (fun K hK => ?_) AllReadyH.nil
    go_simp
    try dsimp only
    refine hK.out _ _ (((unhide XW).keep (unhide E10)).s) (fun hH10 => ?_)
    clear hK K
    try simp only [Act.put, List.setIfInBounds_toArray, List.set_cons_zero, List.set_cons_succ]
    refine wpAnyH_ready (rs := [15]) (by kernel_rfl) (by simp) ?_
    refine AllReadyH.cons (by rfl) (fun K hK => ?_) AllReadyH.nil
    go_simp
    refine (iMac_any ag _ G.length cg X.size cap10 G X.data.toList w10 (unhide HZ) (by omega) (((unhide SGW).keep (unhide E10)).mono (unhide E10).size) (unhide S10) ((unhide M0).keepB (unhide E10) (unhide M0).1)).mono ?_
    rintro e w14 ⟨v14, D, hD, rfl, hown14, hb14⟩
    have E14 := hide ((unhide E10).trans (hb14.mono (unhide E10).size))
    have O14 := hide (own_keepA (unhide O10) hb14)
    have P14 := hide (own_baseA hown14 (unhide E10).size)
    have HD := hide (show D = mac G (V.termX t).data.toList by rw [← unhide HX]; exact (unhide hD).trans (macD_yes ⟨by have h := (unhide OK).1.2.2; omega, by have h : X.data.toList.length = X.size := (by show _ = X.data.size; simp); omega⟩).symm)
    obtain ⟨a8, c8, rfl⟩ := own_form (unhide O14)
    obtain ⟨a14, c14, rfl⟩ := own_form (unhide P14)
    clear hb14 hown14 hD S10 cv
    try dsimp only
    refine hK.out _ _ (((unhide XW).keep (unhide E14)).s) (fun hH14 => ?_)
    clear hK K
    try simp only [Act.put, List.setIfInBounds_toArray, List.set_cons_zero, List.set_cons_succ]
    refine takeA (i := 16) (v := .agg #[.string id, .slice a8 (T ++ [t]).length c8, .slice a14 D.length c14]) (d := some 38) rfl (by kernel_rfl) (by kernel_rfl) (by kernel_rfl) (by kernel_rfl) (fun _ _ _ h => h) (.inl ⟨by kernel_rfl, fun w hSw => ?_⟩) (by assumption) ?_
    · obtain ⟨⟨s0, s1, s2⟩, s3, s4, s5, s6, s7, s8, s9⟩ := hSw
      go_simp
    try simp only [Act.put, List.setIfInBounds_toArray, List.set_cons_zero, List.set_cons_succ]
    have X14 := hide ((unhide XW).keep (unhide E14))
    have y0 := (unhide X14).r.at (o := 0) (v := .string ⟨#[]⟩) rfl
    have y1 := (unhide X14).r.at (o := 1) (v := .slice none 0 0) rfl
    have y2 := (unhide X14).r.at (o := 2) (v := .slice none 0 0) rfl
    have g0 := (unhide X14).r.froz 0
    have g1 := (unhide X14).r.froz 1
    have g2 := (unhide X14).r.froz 2
    have yz := (unhide X14).r.lt
    refine wpAnyH_ready (rs := [17]) (by kernel_rfl) (by simp) ?_
    refine AllReadyH.cons (by rfl) (fun K hK => ?_) AllReadyH.nil
    go_simp
    try dsimp only
    refine hK.out _ _ ((unhide X14).set3 _ _ _) (fun hHs => ?_)
    clear hK K
    refine wpAnyH_done (by kernel_rfl) ?_ _
    go_wp2_with fail
    exact bodyPost_ret (v := .agg #[.string id, .slice a8 (T ++ [t]).length c8, .slice a14 D.length c14]) (by simp [results, Tryz.results55, go_sem, y0, y1, y2]) rfl ⟨⟨_, _, id, T ++ [t], D, ⟨fun _ => ⟨rfl, rfl, unhide HD⟩, fun n => absurd (unhide OK) n⟩, rfl, own_set3A (unhide O14) (unhide B0).size (by have := unhide ZW; omega), own_set3A (unhide P14) (unhide B0).size (by have := unhide ZW; omega)⟩, set3B ((unhide B0).trans ((unhide E14).mono (unhide B0).size)) (by omega) _ _ _⟩
  | some ad =>
    refine takeA (i := 6) (v := .slice (some ad) lt lt) (d := some 28) rfl (by kernel_rfl) (by kernel_rfl) (by kernel_rfl) (by kernel_rfl) (fun _ _ _ h => h) (.inl ⟨by kernel_rfl, fun w hSw => ?_⟩) (by assumption) ?_
    · obtain ⟨⟨s0, s1, s2⟩, s3, s4, s5, s6, s7, s8, s9⟩ := hSw
      go_simp
    try simp only [Act.put, List.setIfInBounds_toArray, List.set_cons_zero, List.set_cons_succ]
    refine wpAnyH_ready (rs := [8]) (by kernel_rfl) (by simp) ?_
    refine AllReadyH.cons (by rfl) (fun K hK => ?_) AllReadyH.nil
    go_simp
    obtain ⟨w7, hw7⟩ : ∃ W', W' = World.drew (World.alloc w2 (.cells #[.string t.f0, .int .i64 t.f1, .string t.f2, .int .i64 t.f3, .int .i64 t.f4, .string t.f5, .string t.f6] 58)) := ⟨_, rfl⟩
    have E7 := hide (show Below W.heap.size W w7 by rw [hw7]; exact ((unhide E2).alloc (unhide E2).size _).drew)
    have N7 := hide (show RowIs w7 w2.heap.size #[.string t.f0, .int .i64 t.f1, .string t.f2, .int .i64 t.f3, .int .i64 t.f4, .string t.f5, .string t.f6] 58 by rw [hw7]; exact (RowIs.new _ _ _).keep (Below.refl _ _).drew)
    rw [← hw7]
    clear hw7
    try dsimp only
    refine hK.out _ _ (((unhide XW).keep (unhide E7)).s) (fun hH7 => ?_)
    clear hK K
    try simp only [Act.put, List.setIfInBounds_toArray, List.set_cons_zero, List.set_cons_succ]
    refine wpAnyH_ready (rs := [9]) (by kernel_rfl) (by simp) ?_
    refine AllReadyH.cons (by rfl) (fun K hK => ?_) AllReadyH.nil
    refine step_append_grows rfl _ _ 36 (by rfl) 58 i0 _ 7 88 Tryz.underlying36 hi hz0 hz1 hz2 rfl (by decide) (some ad) lt lt (V.CavTermsV T) (by rfl) (fun h => by cases h) (by rw [terms_len, unhide HLL]) (ct_news ((unhide SW).keep (unhide E7))) ⟨w2.heap.size, 0, none⟩ 1 1 (#[.string t.f0, .int .i64 t.f1, .string t.f2, .int .i64 t.f3, .int .i64 t.f4, .string t.f5, .string t.f6] : Array Value).toList (by rfl) (by rfl) (World.news_of_block (unhide N7)) (by intro u hu; simp at hu; rcases hu with rfl | rfl | rfl | rfl | rfl | rfl | rfl <;> rfl) (by omega) (by unfold maxLen; omega) (by omega) ?_
    intro v8 w8 hown hgrow
    have E8 := hide ((unhide E7).grown hgrow (unhide E7).size (fun k hk => by cases hk))
    have O8 := hide (show w8.ownsRow W.heap.size 58 7 v8 (T ++ [t]).length (V.CavTermsV (T ++ [t])) by rw [List.length_append, ← unhide HLL, ← enc_snoc]; exact own_baseA hown (unhide E7).size)
    clear hown hgrow
    try dsimp only
    refine hK.out _ _ (((unhide XW).keep (unhide E8)).s) (fun hH8 => ?_)
    clear hK K
    try simp only [Act.put, List.setIfInBounds_toArray, List.set_cons_zero, List.set_cons_succ]
    refine wpAnyH_ready (rs := [13]) (by kernel_rfl) (by simp) ?_
    refine AllReadyH.cons (by rfl) (fun K hK => ?_) AllReadyH.nil
    go_simp
    refine (unhide qT _ ((unhide G0).keep (unhide E8)) ((unhide T0).keep (unhide E8))).mono ?_
    rintro e w9 ⟨rfl, hb9⟩
    have E9 := hide ((unhide E8).trans (hb9.mono (unhide E8).size))
    have O9 := hide (own_keepA (unhide O8) hb9)
    obtain ⟨X, hX⟩ : ∃ X, X = V.termX t := ⟨_, rfl⟩
    have zX : X.size ≤ 2000 := by rw [hX]; have := V.termX_leA t (unhide HOT); omega
    have HX := hide hX
    rw [← hX]
    clear hX
    obtain ⟨cap10, w10, cv, hb10, hs10⟩ := conv_bytesA X w9
    have E10 := hide ((unhide E9).trans (hb10.mono (unhide E9).size))
    have O10 := hide (own_keepA (unhide O9) hb10)
    have S10 := hide hs10
    clear hb9 hb10 hs10 hH8
    try dsimp only
    refine hK.out _ _ (((unhide XW).keep (unhide E9)).s) (fun hH9 => ?_)
    clear hK K
    try simp only [Act.put, List.setIfInBounds_toArray, List.set_cons_zero, List.set_cons_succ]
    refine wpAnyH_ready (rs := [14]) (by kernel_rfl) (by simp) ?_
    refine AllReadyH.cons (by rfl) (fun K hK => ?_) AllReadyH.nil
    go_simp
    try dsimp only
    refine hK.out _ _ (((unhide XW).keep (unhide E10)).s) (fun hH10 => ?_)
    clear hK K
    try simp only [Act.put, List.setIfInBounds_toArray, List.set_cons_zero, List.set_cons_succ]
    refine wpAnyH_ready (rs := [15]) (by kernel_rfl) (by simp) ?_
    refine AllReadyH.cons (by rfl) (fun K hK => ?_) AllReadyH.nil
    go_simp
    refine (iMac_any ag _ G.length cg X.size cap10 G X.data.toList w10 (unhide HZ) (by omega) (((unhide SGW).keep (unhide E10)).mono (unhide E10).size) (unhide S10) ((unhide M0).keepB (unhide E10) (unhide M0).1)).mono ?_
    rintro e w14 ⟨v14, D, hD, rfl, hown14, hb14⟩
    have E14 := hide ((unhide E10).trans (hb14.mono (unhide E10).size))
    have O14 := hide (own_keepA (unhide O10) hb14)
    have P14 := hide (own_baseA hown14 (unhide E10).size)
    have HD := hide (show D = mac G (V.termX t).data.toList by rw [← unhide HX]; exact (unhide hD).trans (macD_yes ⟨by have h := (unhide OK).1.2.2; omega, by have h : X.data.toList.length = X.size := (by show _ = X.data.size; simp); omega⟩).symm)
    obtain ⟨a8, c8, rfl⟩ := own_form (unhide O14)
    obtain ⟨a14, c14, rfl⟩ := own_form (unhide P14)
    clear hb14 hown14 hD S10 cv
    try dsimp only
    refine hK.out _ _ (((unhide XW).keep (unhide E14)).s) (fun hH14 => ?_)
    clear hK K
    try simp only [Act.put, List.setIfInBounds_toArray, List.set_cons_zero, List.set_cons_succ]
    refine takeA (i := 16) (v := .agg #[.string id, .slice a8 (T ++ [t]).length c8, .slice a14 D.length c14]) (d := some 38) rfl (by kernel_rfl) (by kernel_rfl) (by kernel_rfl) (by kernel_rfl) (fun _ _ _ h => h) (.inl ⟨by kernel_rfl, fun w hSw => ?_⟩) (by assumption) ?_
    · obtain ⟨⟨s0, s1, s2⟩, s3, s4, s5, s6, s7, s8, s9⟩ := hSw
      go_simp
    try simp only [Act.put, List.setIfInBounds_toArray, List.set_cons_zero, List.set_cons_succ]
    have X14 := hide ((unhide XW).keep (unhide E14))
    have y0 := (unhide X14).r.at (o := 0) (v := .string ⟨#[]⟩) rfl
    have y1 := (unhide X14).r.at (o := 1) (v := .slice none 0 0) rfl
    have y2 := (unhide X14).r.at (o := 2) (v := .slice none 0 0) rfl
    have g0 := (unhide X14).r.froz 0
    have g1 := (unhide X14).r.froz 1
    have g2 := (unhide X14).r.froz 2
    have yz := (unhide X14).r.lt
    refine wpAnyH_ready (rs := [17]) (by kernel_rfl) (by simp) ?_
    refine AllReadyH.cons (by rfl) (fun K hK => ?_) AllReadyH.nil
    go_simp
    try dsimp only
    refine hK.out _ _ ((unhide X14).set3 _ _ _) (fun hHs => ?_)
    clear hK K
    refine wpAnyH_done (by kernel_rfl) ?_ _
    go_wp2_with fail
    exact bodyPost_ret (v := .agg #[.string id, .slice a8 (T ++ [t]).length c8, .slice a14 D.length c14]) (by simp [results, Tryz.results55, go_sem, y0, y1, y2]) rfl ⟨⟨_, _, id, T ++ [t], D, ⟨fun _ => ⟨rfl, rfl, unhide HD⟩, fun n => absurd (unhide OK) n⟩, rfl, own_set3A (unhide O14) (unhide B0).size (by have := unhide ZW; omega), own_set3A (unhide P14) (unhide B0).size (by have := unhide ZW; omega)⟩, set3B ((unhide B0).trans ((unhide E14).mono (unhide B0).size)) (by omega) _ _ _⟩
end Go.Proofs.YtdflnjjomljgmaaGreatDoor.D
