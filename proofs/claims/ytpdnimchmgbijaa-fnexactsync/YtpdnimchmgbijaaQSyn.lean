/- QTk, QSyP, QSyI, QSyS, one behind the other. -/
import Derived.Test.YtpdnimchmgbijaaQCm
import Derived.Test.YtpdnimchmgbijaaQMsI
import Derived.Test.YtpdnimchmgbijaaQRcS
import Derived.Test.YtpdnimchmgbijaaQVec
import Derived.Deep.RegionHeld3
/- impl.changeLog's take, wherever the list lies. -/
namespace Go.Proofs.Ytpdnimchmgbijaa
open Go.RowKit Go.Maps

theorem DcRow.kept2 {b1 b2 b off : Nat} {w w' : World} {l : List DcT} (h : DcRow w b off l) (k : Kept2 b1 b2 w w') (h1 : b ≠ b1) (h2 : b ≠ b2) : DcRow w' b off l := by
  have hc : ∀ o v, w.cell? ⟨b, o, none⟩ = some v → w'.cell? ⟨b, o, none⟩ = some v := fun o v hv => (World.cell?_of_block (a := ⟨b, o, none⟩) (k.block b h.z h1 h2)).trans hv
  exact ⟨Nat.lt_of_lt_of_le h.z k.size, fun i hi => hc _ _ (h.c0 i hi), fun i hi => hc _ _ (h.c1 i hi), fun i hi => hc _ _ (h.c2 i hi), fun i hi => hc _ _ (h.c3 i hi), fun i hi => hc _ _ (h.c4 i hi), fun i hi => hc _ _ (h.c5 i hi), fun i hi => hc _ _ (h.c6 i hi), fun i hi => hc _ _ (h.c7 i hi), fun i hi => hc _ _ (h.c8 i hi)⟩
theorem SlC.kept2 {b1 b2 : Nat} {w w' : World} {a : Option Addr} {len : Nat} {l : List DcT} (h : SlC w a len l) (k : Kept2 b1 b2 w w') (hnb : ∀ b off, a = some ⟨b, off, none⟩ → b ≠ b1 ∧ b ≠ b2) : SlC w' a len l :=
  ⟨h.1, by
    rcases h.2 with e | ⟨b, off, e, r⟩
    · exact .inl e
    · exact .inr ⟨b, off, e, r.kept2 k (hnb b off e).1 (hnb b off e).2⟩⟩

set_option maxRecDepth 100000 in
set_option maxHeartbeats 1000000 in
theorem take_cg (bv bc nv nc : Nat) (tv0 : Int → Int) (m0 : CMap) (a : Option Addr) (len cap : Nat) (l : List DcT) (W : World) (hne : bv ≠ bc)
    (hv : VecM W bv nv tv0) (hc : CM W bc nc m0) (hi0 : ∀ x, (m0 x).isSome = true → x.1 ≤ tv0 x.2) (hl : len ≤ 1000000) (hnv : nv ≤ 1000000) (hnc : nc ≤ 1000000) (hs : SlC W a len l) (hnb : ∀ b off, a = some ⟨b, off, none⟩ → b ≠ bv ∧ b ≠ bc) (hok : ∀ i (h : i < l.length), (okI l[i].t ∧ 0 < l[i].t) ∧ okI l[i].o) :
    Calls Try.prog 20 #[.agg #[.map (some bv), .map (some bc)], .slice a len cap] W fun e w' => e = .returned (.tuple #[]) ∧ Kept2 bv bc W w' ∧ ∃ m tv, VecM w' bv (nv + len) tv ∧ CM w' bc (nc + len) m ∧ TkIs m0 tv0 l len m tv := by
  have hb9 := hv.lt
  have hc9 := hc.lt
  obtain ⟨W1, hW1⟩ : ∃ W', W' = W.alloc (.cells #[.map (some bv), .map (some bc)] 52) := ⟨_, rfl⟩
  have k1 : Kept2 bv bc W W1 := by rw [hW1]; exact Kept2.alloc _ _ _ _
  have HK1 := hide k1
  have HR := hide (show RowIs W1 W.heap.size #[.map (some bv), .map (some bc)] 52 by rw [hW1]; exact RowIs.new _ _ _)
  have HV := hide (show VecM W1 bv nv tv0 by rw [hW1]; exact hv.kept (World.grownBy_alloc _ _ none) (by simp))
  have HC := hide (show CM W1 bc nc m0 by rw [hW1]; exact hc.kept (World.grownBy_alloc _ _ none) (by simp))
  have HW1 := hide hW1
  have HS := hide (hs.kept2 k1 hnb)
  have HNB := hide hnb
  have HO := hide hok
  have nb : W.heap.size ≠ bv := by omega
  have nc : W.heap.size ≠ bc := by omega
  have NN := hide (And.intro nb nc)
  have NE := hide (And.intro hne trivial)
  have TK0 : Hid (TkIs m0 tv0 l 0 m0 tv0) := hide ⟨rfl, rfl, hi0⟩
  clear k1 hW1 hv hc hs hok hi0 nb nc hne hb9 hc9 hnb
  go_enter Try.func20, Try.ntmps20
  go_wp2_with fail
  rw [← unhide HW1]
  go_loopw [10] (fun i wr => ∃ (k : Nat) (tv : Int → Int) (m : CMap), k ≤ len ∧ i = .int .i64 k ∧ Hid (VecM wr bv (nv + k) tv) ∧ Hid (CM wr bc (nc + k) m) ∧ Hid (TkIs m0 tv0 l k m tv) ∧ Hid (Kept2 bv bc W1 wr)) (fun i _ => len - (Go.RowKit.intOf i).toNat)
  case atStart => exact ⟨0, _, _, Nat.zero_le _, rfl, HV, HC, TK0, hide (Kept2.refl _ _ _)⟩
  case round =>
    clear HV HC TK0
    obtain ⟨k, tv, m, hk, rfl, hV, hC, hT, hK⟩ := hrel
    by_cases hlt : k < len
    · obtain ⟨b, off, rfl, hrow⟩ := ((unhide HS).kept2 (unhide hK) (unhide HNB)).at hlt
      have hk' : k < l.length := by rw [← (unhide HS).1]; exact hlt
      have c0 := hrow.c0 k hk'
      have c1 := hrow.c1 k hk'
      have c2 := hrow.c2 k hk'
      have c3 := hrow.c3 k hk'
      have c4 := hrow.c4 k hk'
      have c5 := hrow.c5 k hk'
      have c6 := hrow.c6 k hk'
      have c7 := hrow.c7 k hk'
      have c8 := hrow.c8 k hk'
      have hR := (unhide hK).row (unhide HR) (unhide NN).1 (unhide NN).2
      have r0 := hR.at (o := 0) (v := .map (some bv)) rfl
      have r1 := hR.at (o := 1) (v := .map (some bc)) rfl
      have zz := hR.lt
      have ho := unhide HO k hk'
      have eS := hide (fun hle => (unhide hT).step hk' hle)
      have eK := hide (fun hle => (unhide hT).skip hk' hle)
      clear hrow
      generalize l[k] = A at c0 c1 c2 c3 c4 c5 c6 c7 c8 ho eS eK
      have HT := hide ho.1.1
      have HT0 := hide ho.1.2
      have HS9 := hide ho.2
      have HA := hide (show CM (wr.alloc (.cells #[.int .i64 A.t, .int .i64 A.o, .int .i64 A.k, .int .i64 A.u, .int .i64 A.p, .string A.pa, .string A.pt, .string A.a, .string A.x] 46)) bc (nc + k) m from (unhide hC).kept (World.grownBy_alloc _ _ none) (by simp))
      have HA2 := hide (show ∀ o2, CM ((wr.alloc (.cells #[.int .i64 A.t, .int .i64 A.o, .int .i64 A.k, .int .i64 A.u, .int .i64 A.p, .string A.pa, .string A.pt, .string A.a, .string A.x] 46)).alloc o2) bc (nc + k) m from fun o2 => (unhide HA).kept (World.grownBy_alloc _ _ none) (by simp))
      have HV2 := hide (show ∀ o2, VecM ((wr.alloc (.cells #[.int .i64 A.t, .int .i64 A.o, .int .i64 A.k, .int .i64 A.u, .int .i64 A.p, .string A.pa, .string A.pt, .string A.a, .string A.x] 46)).alloc o2) bv (nv + k) tv from fun o2 => ((unhide hV).kept (World.grownBy_alloc _ _ none) (by simp)).kept (World.grownBy_alloc _ _ none) (by simp))
      have HK2 := hide (show ∀ o2, Kept2 bv bc W1 ((wr.alloc (.cells #[.int .i64 A.t, .int .i64 A.o, .int .i64 A.k, .int .i64 A.u, .int .i64 A.p, .string A.pa, .string A.pt, .string A.a, .string A.x] 46)).alloc o2) from fun o2 => ((unhide hK).trans (Kept2.alloc _ _ _ _)).trans (Kept2.alloc _ _ _ _))
      have FX := hide (show ∀ o2 w1, ((wr.alloc (.cells #[.int .i64 A.t, .int .i64 A.o, .int .i64 A.k, .int .i64 A.u, .int .i64 A.p, .string A.pa, .string A.pt, .string A.a, .string A.x] 46)).alloc o2).grownBy w1 (some bc) →
          (w1.cell? ⟨W.heap.size, 0, none⟩ = some (.map (some bv)) ∧ w1.cell? ⟨wr.heap.size, 0, none⟩ = some (.int .i64 A.t) ∧ w1.cell? ⟨wr.heap.size, 1, none⟩ = some (.int .i64 A.o)) ∧ VecM w1 bv (nv + k) tv ∧ Kept2 bv bc W1 w1 from fun o2 w1 hg => by
        have e1 := (unhide hC).lt
        have e2 := (unhide hV).lt
        have K2 : Kept2 bv bc ((wr.alloc (.cells #[.int .i64 A.t, .int .i64 A.o, .int .i64 A.k, .int .i64 A.u, .int .i64 A.p, .string A.pa, .string A.pt, .string A.a, .string A.x] 46)).alloc o2) w1 := Kept2.g2 hg
        have RX : RowIs ((wr.alloc (.cells #[.int .i64 A.t, .int .i64 A.o, .int .i64 A.k, .int .i64 A.u, .int .i64 A.p, .string A.pa, .string A.pt, .string A.a, .string A.x] 46)).alloc o2) wr.heap.size #[.int .i64 A.t, .int .i64 A.o, .int .i64 A.k, .int .i64 A.u, .int .i64 A.p, .string A.pa, .string A.pt, .string A.a, .string A.x] 46 := (RowIs.new wr _ _).keep (bAl (Below.refl _ _) _)
        have RX1 := K2.row RX (by omega) (by omega)
        have R1 := ((unhide HK2 o2).trans K2).row (unhide HR) (unhide NN).1 (unhide NN).2
        exact ⟨⟨R1.at rfl, RX1.at rfl, RX1.at rfl⟩, (unhide HV2 o2).kept hg (by have := (unhide NE).1; simpa using this), (unhide HK2 o2).trans K2⟩)
      clear ho hR
      go_wp2_with (first
        | (at_lookup; refine wpList_look_cm _ rfl _ _ rfl bc (nc + k) m rfl (unhide HA) A.t A.o rfl (unhide HT) (unhide HS9) ?_; intro C r hr; have HRr := hide hr; clear hr)
        | (at_mapUpdate; refine wpList_put_cm _ rfl _ _ _ rfl bc (nc + k) m rfl (unhide HA2 _) (by unfold maxLen; omega) A.t A.o A rfl rfl (unhide HT) (unhide HS9) ?_; intro w1 hc1 hg1; have HC1 := hide hc1; obtain ⟨⟨x0, x1, x2⟩, hv1, hk1⟩ := unhide FX _ _ hg1; have HV1 := hide hv1; have HK3 := hide hk1; clear hc1 hg1 hv1 hk1))
      · refine (see_any bv (nv + k) tv A.t A.o _ (unhide HV1) (by unfold maxLen; omega) (unhide HT) (unhide HS9) (unhide HT0)).mono ?_
        rintro e w2 ⟨rfl, hv2, hg2⟩
        have V9 := hide hv2
        have C9 := hide ((unhide HC1).kept hg2 (by have := (unhide NE).1; intro h; simp at h; omega))
        have K9 := hide ((unhide HK3).trans (Kept2.g1 hg2))
        clear hv2 hg2 HV1 HC1 HK3 x0 x1 x2
        go_wp2_with fail
        exact ⟨⟨k + 1, upd tv A.o A.t, _, by omega, by go_num, V9, C9, hide (unhide eS (by rw [← unhide HRr]; simpa using (by assumption : (!r) = true))), K9⟩, by simp [Go.RowKit.intOf]; omega⟩
      · exact ⟨⟨k + 1, tv, m, by omega, by go_num, hide ((unhide HV2 _).more (by omega)), hide ((unhide HA2 _).more (by omega)), hide (unhide eK (by rw [← unhide HRr]; simpa using (by assumption : (!r) = false))), hide (unhide HK2 _)⟩, by simp [Go.RowKit.intOf]; omega⟩
    · obtain rfl : k = len := by omega
      go_wp2_with fail
      go_end0
      exact ⟨rfl, (unhide HK1).trans (unhide hK), m, tv, unhide hV, unhide hC, unhide hT⟩
end Go.Proofs.Ytpdnimchmgbijaa
/- Sync, plainly: what the vectors leave out is what the specification leaves out. -/
namespace Go.Proofs.Ytpdnimchmgbijaa
open Go.RowKit Go.Maps

theorem takeV_most (a : Int) : ∀ (l : List DcT) (tv : Int → Int), takeV tv l a = l.foldl (mostStep a) (tv a)
  | [], _ => rfl
  | c :: l, tv => by
    show takeV (upd tv c.o c.t) l a = _
    rw [takeV_most a l]
    have : upd tv c.o c.t a = mostStep a (tv a) c := by
      unfold mostStep
      by_cases e : a = c.o
      · subst e
        rw [upd_same, Int.max_def]
        split <;> split <;> omega
      · rw [upd_other tv e, if_neg (fun h => e h.1.symm)]
    rw [this]
    rfl
theorem vecTo_mem (l : List DcT) : ∀ (k : Nat) (p : Int × Int), p ∈ vecTo l k ↔ ∃ j : Nat, j < k ∧ 0 < most l (j : Int) ∧ p = (most l (j : Int), (j : Int))
  | 0, p => by simp [vecTo]
  | k + 1, p => by
    rw [vecTo, List.mem_append, vecTo_mem l k p]
    constructor
    · rintro (⟨j, h1, h2⟩ | h)
      · exact ⟨j, by omega, h2⟩
      · split at h
        · rename_i hp
          exact ⟨k, by omega, hp, by simpa using h⟩
        · cases h
    · rintro ⟨j, h1, h2, h3⟩
      by_cases e : j = k
      · subst e
        right
        rw [if_pos h2, h3]
        simp
      · exact .inl ⟨j, by omega, h2, h3⟩
theorem sync_msg {a b : List DcT} (hb : b.all chB = true) : (b.filter fun c => decide (takeV (fun _ => 0) a c.o < c.t)) = msg b (vecTo a 100) := by
  rw [← filter_msg hb (vecTo a 100)]
  refine List.filter_congr fun c hc => ?_
  obtain ⟨i, hi, rfl⟩ := List.mem_iff_getElem.1 hc
  have hr := ch_range hb i hi
  have h := vecV_le b[i].t b[i].o (vecTo a 100) (fun _ => 0)
  have e : takeV (fun _ => 0) a b[i].o = most a b[i].o := takeV_most _ a _
  rw [e]
  have key : b[i].t ≤ vecV (fun _ => 0) (vecTo a 100) b[i].o ↔ b[i].t ≤ most a b[i].o := by
    rw [h]
    constructor
    · rintro (h1 | ⟨v, hv, h1, h2⟩)
      · omega
      · obtain ⟨j, _, _, rfl⟩ := (vecTo_mem a 100 v).1 hv
        simp only at h1 h2
        rw [← h1]
        exact h2
    · intro h1
      refine .inr ⟨(most a b[i].o, b[i].o), (vecTo_mem a 100 _).2 ⟨b[i].o.toNat, by omega, ?_, ?_⟩, rfl, h1⟩
      · rw [Int.toNat_of_nonneg hr.2.1]; omega
      · rw [Int.toNat_of_nonneg hr.2.1]
  exact decide_eq_decide.2 (by omega)

def syX (a b : List DcT) : List DcT := recv a (msg b (vecTo a 100))
def SyG (a b : List DcT) : Prop := LogG a ∧ LogG b
def SyP (a b r s : List DcT) : Prop := (¬ SyG a b ∧ r = [] ∧ s = []) ∨ (SyG a b ∧ (((200 < (syX a b).length ∨ 200 < (syX b a).length) ∧ r = [] ∧ s = []) ∨ (¬ (200 < (syX a b).length ∨ 200 < (syX b a).length) ∧ r = syX a b ∧ s = syX b a)))
theorem SyP.uniq {a b r s r' s' : List DcT} (h : SyP a b r s) (h' : SyP a b r' s') : r = r' ∧ s = s' := by
  rcases h with ⟨n, rfl, rfl⟩ | ⟨g, h⟩ <;> rcases h' with ⟨n', rfl, rfl⟩ | ⟨g', h'⟩
  · exact ⟨rfl, rfl⟩
  · exact absurd g' n
  · exact absurd g n'
  · rcases h with ⟨h1, rfl, rfl⟩ | ⟨h1, rfl, rfl⟩ <;> rcases h' with ⟨h2, rfl, rfl⟩ | ⟨h2, rfl, rfl⟩
    · exact ⟨rfl, rfl⟩
    · exact absurd h1 h2
    · exact absurd h2 h1
    · exact ⟨rfl, rfl⟩
theorem SyP.len {a b r s : List DcT} (h : SyP a b r s) : r.length ≤ 1000 ∧ s.length ≤ 1000 := by
  rcases h with ⟨_, rfl, rfl⟩ | ⟨_, ⟨_, rfl, rfl⟩ | ⟨h, rfl, rfl⟩⟩
  · exact ⟨Nat.zero_le _, Nat.zero_le _⟩
  · exact ⟨Nat.zero_le _, Nat.zero_le _⟩
  · exact ⟨by omega, by omega⟩
/-- Two values that own no block in common. -/
def DJ (v u : Value) : Prop := ∀ g h, v.ownBlock = some g → u.ownBlock = some h → g ≠ h
theorem DJ.of {v u : Value} {B : Nat} (h1 : ∀ g, v.ownBlock = some g → g < B) (h2 : ∀ g, u.ownBlock = some g → B ≤ g) : DJ v u := fun g h e1 e2 e => by
  have := h1 g e1; have := h2 h e2; omega
theorem DJ.ne {v u : Value} (h : DJ v u) : u.ownBlock = none ∨ u.ownBlock ≠ v.ownBlock := by
  cases hu : u.ownBlock with
  | none => exact .inl rfl
  | some g => exact .inr fun e => h g g e.symm hu rfl
theorem DJ.ne' {v u : Value} (h : DJ v u) : v.ownBlock = none ∨ v.ownBlock ≠ u.ownBlock := by
  cases hv : v.ownBlock with
  | none => exact .inl rfl
  | some g => exact .inr fun e => h g g hv e.symm rfl
theorem dj_nil (v : Value) : DJ (.slice none 0 0) v := fun g _ h _ => by simp [Value.ownBlock] at h
theorem marks_grownC {w w' : World} {v : Value} {s n : Nat} {row : Option Nat} (h : MarksC w v s n) (hg : w.grownBy w' row) (hne : v.ownBlock = none ∨ v.ownBlock ≠ row) : MarksC w' v s n := by
  refine h.imp_right ?_
  rintro ⟨g, cap, C, rfl, r, m⟩
  refine ⟨g, cap, C, rfl, row_grown r hg ?_, m⟩
  rcases hne with h1 | h1
  · simp [Value.ownBlock] at h1
  · simpa [Value.ownBlock] using h1
end Go.Proofs.Ytpdnimchmgbijaa
/- impl.Sync. -/
namespace Go.Proofs.Ytpdnimchmgbijaa
open Go.RowKit Go.Maps

theorem CM.kept2 {b1 b2 b n : Nat} {m : CMap} {w w' : World} (h : CM w b n m) (k : Kept2 b1 b2 w w') (h1 : b ≠ b1) (h2 : b ≠ b2) : CM w' b n m := by
  have hl := h.lt
  obtain ⟨D, ⟨es, clock, hb, h3⟩, hD⟩ := h
  exact ⟨D, ⟨es, clock, (k.block b hl h1 h2).trans hb, h3⟩, hD⟩
theorem VecM.kept2 {b1 b2 b n : Nat} {tv : Int → Int} {w w' : World} (h : VecM w b n tv) (k : Kept2 b1 b2 w w') (h1 : b ≠ b1) (h2 : b ≠ b2) : VecM w' b n tv := by
  have hl := h.lt
  obtain ⟨D, ⟨es, clock, hb, h3⟩, hD⟩ := h
  exact ⟨D, ⟨es, clock, (k.block b hl h1 h2).trans hb, h3⟩, hD⟩
theorem VecM.keepC {w w' : World} {b n B : Nat} {tv : Int → Int} (h : VecM w b n tv) (hb : Below B w w') (hlt : b < B) : VecM w' b n tv := by
  obtain ⟨D, ⟨es, clock, h1, h2⟩, hD⟩ := h
  exact ⟨D, ⟨es, clock, (hb.block b hlt).trans h1, h2⟩, hD⟩
theorem own_kept2 {b1 b2 : Nat} {w w' : World} {base n e size : Nat} {v : Value} {xs : List Value} (h : w.ownsRow base e size v n xs) (k : Kept2 b1 b2 w w') (h1 : ∀ g, v.ownBlock = some g → g ≠ b1 ∧ g ≠ b2) : w'.ownsRow base e size v n xs := by
  refine ⟨h.1, h.2.imp_right ?_⟩
  rintro ⟨g, cap, cur, e', hb, hh, r⟩
  have ho : v.ownBlock = some g := by rw [e']; rfl
  refine ⟨g, cap, cur, e', hb, ?_, r⟩
  rw [k.block g (Array.getElem?_eq_some_iff.1 hh).1 (h1 g ho).1 (h1 g ho).2]; exact hh
/-- 'len(m)' under a guard that lets it by. -/
theorem wpList_len_want {H : Type} {P : Program} (w : World) {ops : Array Oper} {rest : List Oper} {o : Oper} {a : Act} {Q : Exit → Act → World → Prop} (hw : Region.wanted o (yielded ops a.tmps) = true) (m : Operand) (t : TypeId) (hop : o.op = Op.call { callee := Callee.builtin Builtin.len, args := #[m], argTypes := #[t] })
    (k e : TypeId) (ht : P.underlying t = some (.map k e)) (R : Value → Option (DataW H × List MemPlace)) (b n : Nat) (D : DataW H) (hm : a.eval m = .map (some b)) (hown : w.ownsMap P k R b n D)
    (hK : wpList P ops Q rest (a.put o.dst (.int .i64 (Maps.size D))) w) : wpList P ops Q (o :: rest) a w := by
  refine BigFrame.wpList_want hw fun K' hK' => ?_
  unfold Oper.wp
  simp [execOp, hop, resolve, invoke, builtin, hm, hown.len ht o.type, Result.andThen]
  exact hK' _ _ hK
/-- The two logs of changes, in their boxes. -/
structure SyS (B6 B7 bl cl br cr nl nr : Nat) (tl tr : Int → Int) (ml mr : CMap) (w : World) : Prop where
  r6 : RowIs w B6 #[.map (some bl), .map (some cl)] 52
  r7 : RowIs w B7 #[.map (some br), .map (some cr)] 52
  vl : VecM w bl nl tl
  ml : CM w cl nl ml
  vr : VecM w br nr tr
  mr : CM w cr nr mr
theorem SyS.keep {B6 B7 bl cl br cr nl nr : Nat} {tl tr : Int → Int} {ml mr : CMap} {w w' : World} (h : SyS B6 B7 bl cl br cr nl nr tl tr ml mr w) (hb : Below w.heap.size w w') : SyS B6 B7 bl cl br cr nl nr tl tr ml mr w' :=
  ⟨h.r6.keep hb, h.r7.keep hb, h.vl.keepC hb h.vl.lt, h.ml.keepB hb h.ml.lt, h.vr.keepC hb h.vr.lt, h.mr.keepB hb h.mr.lt⟩
theorem SyS.cells {B6 B7 bl cl br cr nl nr : Nat} {tl tr : Int → Int} {ml mr : CMap} {w : World} (h : SyS B6 B7 bl cl br cr nl nr tl tr ml mr w) :
    w.cell? ⟨B6, 0, none⟩ = some (.map (some bl)) ∧ w.cell? ⟨B6, 1, none⟩ = some (.map (some cl)) ∧ w.cell? ⟨B7, 0, none⟩ = some (.map (some br)) ∧ w.cell? ⟨B7, 1, none⟩ = some (.map (some cr)) :=
  ⟨h.r6.at rfl, h.r6.at rfl, h.r7.at rfl, h.r7.at rfl⟩
theorem SyS.drew {B6 B7 bl cl br cr nl nr : Nat} {tl tr : Int → Int} {ml mr : CMap} {w : World} (h : SyS B6 B7 bl cl br cr nl nr tl tr ml mr w) : SyS B6 B7 bl cl br cr nl nr tl tr ml mr w.drew := h.keep ⟨rfl, rfl, rfl, Nat.le_refl _, fun _ _ => rfl⟩
theorem log_range {l : List DcT} (h : l.all chB = true) (p : DcT → Bool) : ∀ i (hi : i < (l.filter p).length), (okI (l.filter p)[i].t ∧ 0 < (l.filter p)[i].t) ∧ okI (l.filter p)[i].o := fun i hi => by
  have hm : (l.filter p)[i] ∈ l := (List.mem_filter.1 (List.getElem_mem hi)).1
  obtain ⟨j, hj, e⟩ := List.mem_iff_getElem.1 hm
  have := ch_range h j hj
  rw [e] at this
  exact ⟨⟨(okI_iff _).2 (by omega), by omega⟩, (okI_iff _).2 (by omega)⟩
theorem log_inv {l : List DcT} (hg : LogG l) : ∀ x, (takeM (fun _ => none) l x).isSome = true → x.1 ≤ takeV (fun _ => 0) l x.2 := fun x hx => by
  obtain ⟨o1, o2⟩ := log_ord hg
  obtain ⟨c, hc⟩ := Option.isSome_iff_exists.1 hx
  obtain ⟨rfl, _⟩ := o2 x c hc
  exact takeV_up l _ c ((o1.mem c).2 hc)

set_option maxRecDepth 100000 in
set_option maxHeartbeats 2000000 in
theorem iSync_any (a : Option Addr) (len cap : Nat) (l : List DcT) (a' : Option Addr) (len' cap' : Nat) (l' : List DcT) (w : World) (hl : len ≤ maxLen) (hs : SlC w a len l) (hok : ∀ q ∈ l, DcT.Ok q) (hl' : len' ≤ maxLen) (hs' : SlC w a' len' l') (hok' : ∀ q ∈ l', DcT.Ok q) :
    Calls Try.prog 7 #[.slice a len cap, .slice a' len' cap'] w fun e w' => (∃ v u r s, e = .returned (.tuple #[v, u]) ∧ SyP l l' r s ∧ w'.ownsRow w.heap.size 46 9 v r.length (dcsV r) ∧ w'.ownsRow w.heap.size 46 9 u s.length (dcsV s) ∧ DJ v u) ∧ Below w.heap.size w w' := by
  have q1 := hide (iGoodLog_any a len cap l w hl hs hok)
  have q2 := hide (fun w hs => iGoodLog_any a' len' cap' l' w hl' hs hok')
  have HS := hide hs
  have HS' := hide hs'
  have hll := hide hs.1
  have hll' := hide hs'.1
  clear hs hok hl hs' hok' hl'
  go_enter Try.func7, Try.ntmps7
  go_wp2_with fail
  refine (unhide q1).mono ?_
  rintro e w1 ⟨⟨t1, rfl, ht1⟩, hb1⟩
  have B1 := hide hb1
  replace HS := hide ((unhide HS).keep hb1)
  replace HS' := hide ((unhide HS').keep hb1)
  have HT1 := hide ht1
  clear hb1 q1 ht1
  cases t1
  · have no : Hid (SyP l l' [] []) := hide (.inl ⟨fun h => (by have := (unhide HT1).2 h.1; cases this), rfl, rfl⟩)
    go_wp2_with fail
    refine bodyPost_ret (v := .tuple #[.slice none 0 0, .slice none 0 0]) (by simp [results, Try.results7, go_sem]) rfl ⟨⟨_, _, [], [], rfl, unhide no, World.ownsRow_nil _ _ _ _, World.ownsRow_nil _ _ _ _, dj_nil _⟩, unhide B1⟩
  have LG := hide ((unhide HT1).1 rfl)
  clear HT1
  go_wp2_with fail
  refine (unhide q2 _ (unhide HS')).mono ?_
  rintro e w2 ⟨⟨t2, rfl, ht2⟩, hb2⟩
  have B2 := hide (bTr (unhide B1) hb2)
  replace HS := hide ((unhide HS).keep hb2)
  replace HS' := hide ((unhide HS').keep hb2)
  have HT2 := hide ht2
  clear hb2 q2 ht2 B1
  cases t2
  · have no : Hid (SyP l l' [] []) := hide (.inl ⟨fun h => (by have := (unhide HT2).2 h.2; cases this), rfl, rfl⟩)
    go_wp2_with fail
    refine bodyPost_ret (v := .tuple #[.slice none 0 0, .slice none 0 0]) (by simp [results, Try.results7, go_sem]) rfl ⟨⟨_, _, [], [], rfl, unhide no, World.ownsRow_nil _ _ _ _, World.ownsRow_nil _ _ _ _, dj_nil _⟩, unhide B2⟩
  have LG' := hide ((unhide HT2).1 rfl)
  clear HT2
  have hlen : len ≤ 200 := by have := (unhide LG).1; rw [← unhide hll] at this; exact this
  have hlen' : len' ≤ 200 := by have := (unhide LG').1; rw [← unhide hll'] at this; exact this
  have ok1 : ∀ i (h : i < l.length), (okI l[i].t ∧ 0 < l[i].t) ∧ okI l[i].o := fun i hi => by
    have := ch_range (unhide LG).2.1 i hi
    exact ⟨⟨(okI_iff _).2 (by omega), by omega⟩, (okI_iff _).2 (by omega)⟩
  have ok2 : ∀ i (h : i < l'.length), (okI l'[i].t ∧ 0 < l'[i].t) ∧ okI l'[i].o := fun i hi => by
    have := ch_range (unhide LG').2.1 i hi
    exact ⟨⟨(okI_iff _).2 (by omega), by omega⟩, (okI_iff _).2 (by omega)⟩
  have qc := hide (changeLogOf_cm a len cap l w2 (by omega) (unhide HS) ok1)
  have qc' := hide (fun w hs => changeLogOf_cm a' len' cap' l' w (by omega) hs ok2)
  have ORD := hide (log_ord (unhide LG))
  have ORD' := hide (log_ord (unhide LG'))
  clear ok1 ok2
  go_wp2_with fail
  refine (unhide qc).mono ?_
  rintro e w3 ⟨⟨bl, cl, rfl, ⟨g1, g2, g3⟩, hv, hc⟩, hb3⟩
  have z3 := hv.lt
  have z3' := hc.lt
  have HV := hide hv
  have HC := hide hc
  have B3 := hide (bTr (unhide B2) hb3)
  replace HS' := hide ((unhide HS').keep hb3)
  clear hv hc hb3 qc HS
  go_wp2_with fail
  refine (unhide qc' _ (unhide HS')).mono ?_
  rintro e w4 ⟨⟨br, cr, rfl, ⟨g4, g5, g6⟩, hv', hc'⟩, hb4⟩
  have z4 := hv'.lt
  have z4' := hc'.lt
  have B4 := hide (bTr (unhide B3) hb4)
  have hsz4 := hb4.size
  obtain ⟨B6, hB6⟩ : ∃ B, B = w4.heap.size := ⟨_, rfl⟩
  have SX := hide (show SyS B6 (B6 + 1) bl cl br cr len len' (takeV (fun _ => 0) l) (takeV (fun _ => 0) l') (takeM (fun _ => none) l) (takeM (fun _ => none) l') ((w4.alloc (.cells #[.map (some bl), .map (some cl)] 52)).alloc (.cells #[.map (some br), .map (some cr)] 52)) from by
    have kk : Below w4.heap.size w4 ((w4.alloc (.cells #[.map (some bl), .map (some cl)] 52)).alloc (.cells #[.map (some br), .map (some cr)] 52)) := bAl (bAl (Below.refl _ _) _) _
    refine ⟨?_, ?_, ((unhide HV).keepC hb4 z3).keepC kk (by omega), ((unhide HC).keepB hb4 z3').keepB kk (by omega), hv'.keepC kk z4, hc'.keepB kk z4'⟩
    · rw [hB6]; exact (RowIs.new w4 _ _).keep (bAl (Below.refl _ _) _)
    · have := RowIs.new (w4.alloc (.cells #[.map (some bl), .map (some cl)] 52)) #[.map (some br), .map (some cr)] 52
      rw [show (w4.alloc (.cells #[.map (some bl), .map (some cl)] 52)).heap.size = B6 + 1 by rw [hB6]; simp] at this
      exact this)
  have BX := hide (show Below w.heap.size w ((w4.alloc (.cells #[.map (some bl), .map (some cl)] 52)).alloc (.cells #[.map (some br), .map (some cr)] 52)) from bAl (bAl (unhide B4) _) _)
  have ZZ := hide (show w.heap.size ≤ bl ∧ w.heap.size ≤ cl ∧ w.heap.size ≤ br ∧ w.heap.size ≤ cr ∧ bl < B6 ∧ cl < B6 ∧ br < B6 ∧ cr < B6 ∧ bl ≠ cl ∧ br ≠ cr ∧ bl ≠ br ∧ bl ≠ cr ∧ cl ≠ br ∧ cl ≠ cr from by
    have h1 := (unhide B2).size
    have h2 := (unhide B3).size
    refine ⟨by omega, by omega, by omega, by omega, by omega, by omega, by omega, by omega, g3, g6, by omega, by omega, by omega, by omega⟩)
  have HB6 := hide hB6
  clear hv' hc' hb4 HV HC qc' z3 z3' z4 z4' hsz4 g1 g2 g3 g4 g5 g6 HS' B4 B3 B2 hB6
  go_wp2_with fail
  rw [← unhide HB6]
  refine wp_at (R := fun w' => SyS B6 (B6 + 1) bl cl br cr len len' (takeV (fun _ => 0) l) (takeV (fun _ => 0) l') (takeM (fun _ => none) l) (takeM (fun _ => none) l') w' ∧ Below w.heap.size w w' ∧ B6 < w'.heap.size) ⟨unhide SX, unhide BX, (unhide SX).r6.lt⟩ ?_
  clear SX BX HB6
  rintro X ⟨sx, bx, zx⟩
  have SX := hide sx
  have BX := hide bx
  have HZX := hide zx
  clear sx bx zx
  obtain ⟨d0, d1, d2, d3⟩ := (unhide SX).cells
  obtain ⟨TL, hTL⟩ : ∃ T, T = l'.filter (fun c => decide (takeV (fun _ => 0) l c.o < c.t)) := ⟨_, rfl⟩
  obtain ⟨TR, hTR⟩ : ∃ T, T = l.filter (fun c => decide (takeV (fun _ => 0) l' c.o < c.t)) := ⟨_, rfl⟩
  have qm1 := hide (fun W (h : SyS B6 (B6 + 1) bl cl br cr len len' (takeV (fun _ => 0) l) (takeV (fun _ => 0) l') (takeM (fun _ => none) l) (takeM (fun _ => none) l') W) => missing_cm br cr len' _ l' bl len _ W h.mr (by omega) (unhide ORD').2 (unhide ORD').1 h.vl.toN)
  have qm2 := hide (fun W (h : SyS B6 (B6 + 1) bl cl br cr len len' (takeV (fun _ => 0) l) (takeV (fun _ => 0) l') (takeM (fun _ => none) l) (takeM (fun _ => none) l') W) => missing_cm bl cl len _ l br len' _ W h.ml (by omega) (unhide ORD).2 (unhide ORD).1 h.vr.toN)
  rw [← hTL] at qm1
  rw [← hTR] at qm2
  have okL := hide (log_range (unhide LG').2.1 (fun c => decide (takeV (fun _ => 0) l c.o < c.t)))
  have okR := hide (log_range (unhide LG).2.1 (fun c => decide (takeV (fun _ => 0) l' c.o < c.t)))
  rw [← hTL] at okL
  rw [← hTR] at okR
  have lnL : TL.length ≤ len' := by rw [hTL, unhide hll']; exact List.length_filter_le _ _
  have lnR : TR.length ≤ len := by rw [hTR, unhide hll]; exact List.length_filter_le _ _
  have eL := hide (show recv l TL = syX l l' by unfold syX; rw [hTL, sync_msg (unhide LG').2.1])
  have eR := hide (show recv l' TR = syX l' l by unfold syX; rw [hTR, sync_msg (unhide LG).2.1])
  have inL := hide (log_inv (unhide LG))
  have inR := hide (log_inv (unhide LG'))
  have ordL := hide (take_ord TL _ l (unhide ORD).1 (unhide ORD).2 (fun c hc => by
    obtain ⟨i, hi, rfl⟩ := List.mem_iff_getElem.1 hc
    exact ⟨(unhide okL i hi).1.1, (unhide okL i hi).2⟩))
  have ordR := hide (take_ord TR _ l' (unhide ORD').1 (unhide ORD').2 (fun c hc => by
    obtain ⟨i, hi, rfl⟩ := List.mem_iff_getElem.1 hc
    exact ⟨(unhide okR i hi).1.1, (unhide okR i hi).2⟩))
  rw [unhide eL] at ordL
  rw [unhide eR] at ordR
  clear hTL hTR
  generalize takeV (fun _ => 0) l = vtl at *
  generalize takeV (fun _ => 0) l' = vtr at *
  generalize hml : takeM (fun _ => none) l = mtl at *
  generalize hmr : takeM (fun _ => none) l' = mtr at *
  clear hml hmr
  go_region_held3 (fun w' => w'.cell? ⟨B6, 0, none⟩ = some (.map (some bl)) ∧ w'.cell? ⟨B6, 1, none⟩ = some (.map (some cl)) ∧ w'.cell? ⟨B6 + 1, 0, none⟩ = some (.map (some br)) ∧ w'.cell? ⟨B6 + 1, 1, none⟩ = some (.map (some cr)))
    (first
      | exact (unhide SX).cells
      | exact (unhide SX).drew.cells
      | exact (unhide S6).cells
      | exact (unhide S7).cells)
    (first
      | (go_at_call_of 19 cr; refine (unhide qm1 _ (by first | exact unhide SX | exact (unhide SX).drew)).mono ?_; rintro e w6 ⟨⟨v1, rfl, ho1⟩, hb6⟩; have S6 := hide (show SyS B6 (B6 + 1) bl cl br cr len len' vtl vtr mtl mtr w6 from by first | exact (unhide SX).keep hb6 | exact (unhide SX).drew.keep hb6))
      | (go_at_call_of 19 cl; refine (unhide qm2 _ (unhide S6)).mono ?_; rintro e w7 ⟨⟨v2, rfl, ho2⟩, hb7⟩; have S7 := hide ((unhide S6).keep hb7)))
  have O1 := hide (own_keep ho1 hb7)
  have O2 := hide ho2
  have lo1 := hide (show ∀ g, v1.ownBlock = some g → B6 < g from fun g e => by have h1 : X.heap.size ≤ g := (ho1.lt g e).1; have := unhide HZX; omega)
  have lo2 := hide (show ∀ g, v2.ownBlock = some g → B6 < g from fun g e => by have h1 := (ho2.lt g e).1; have h2 : X.heap.size ≤ w6.heap.size := hb6.size; have := unhide HZX; omega)
  have B7 := hide (show Below w.heap.size w w7 from bTr (bTr (unhide BX) (show Below X.heap.size X w6 from ⟨hb6.os, hb6.tape, hb6.output, hb6.size, hb6.block⟩)) hb7)
  clear ho1 ho2 hb6 hb7 S6 SX BX HZX qm1 qm2 d0 d1 d2 d3
  obtain ⟨a1, cp1, rfl, sl1⟩ := own_dcs (unhide O1)
  obtain ⟨a2, cp2, rfl, sl2⟩ := own_dcs (unhide O2)
  obtain ⟨zz1, zz2, zz3, zz4, zz5, zz6, zz7, zz8, zz9, zz10, zz11, zz12, zz13, zz14⟩ := unhide ZZ
  have q5 := hide (take_cg bl cl len len vtl mtl a1 TL.length cp1 TL w7 zz9 (unhide S7).vl (unhide S7).ml (unhide inL) (by omega) (by omega) (by omega) sl1 (fun b off e => by have := unhide lo1 b (by rw [e]; rfl); omega) (unhide okL))
  have HSL2 := hide sl2
  obtain ⟨d0, d1, d2, d3⟩ := (unhide S7).cells
  clear sl1 sl2 zz1 zz2 zz3 zz4 zz5 zz6 zz7 zz8 zz9 zz10 zz11 zz12 zz13 zz14 inL okL
  go_wp2_with fail
  refine (unhide q5).mono ?_
  rintro e w8 ⟨rfl, hk8, m8, tv8, hv8, hc8, htk8⟩
  obtain ⟨zz1, zz2, zz3, zz4, zz5, zz6, zz7, zz8, zz9, zz10, zz11, zz12, zz13, zz14⟩ := unhide ZZ
  have em8 : m8 = takeM mtl TL := by rw [htk8.hm, List.take_length]
  have S8 := hide (show SyS B6 (B6 + 1) bl cl br cr (len + TL.length) len' tv8 vtr m8 mtr w8 from ⟨hk8.row (unhide S7).r6 (by omega) (by omega), hk8.row (unhide S7).r7 (by omega) (by omega), hv8, hc8, (unhide S7).vr.kept2 hk8 (by omega) (by omega), (unhide S7).mr.kept2 hk8 (by omega) (by omega)⟩)
  have B8 := hide (hk8.below (unhide B7) (unhide B7).size zz1 zz2)
  have sl2 := (unhide HSL2).kept2 hk8 (fun b off e => by have := unhide lo2 b (by rw [e]; rfl); omega)
  have q6 := hide (take_cg br cr len' len' vtr mtr a2 TR.length cp2 TR w8 zz10 (unhide S8).vr (unhide S8).mr (unhide inR) (by omega) (by omega) (by omega) sl2 (fun b off e => by have := unhide lo2 b (by rw [e]; rfl); omega) (unhide okR))
  clear hv8 hc8 htk8 hk8 q5 S7 B7 sl2 HSL2 d0 d1 d2 d3 zz1 zz2 zz3 zz4 zz5 zz6 zz7 zz8 zz9 zz10 zz11 zz12 zz13 zz14 inR okR O1 O2 lo1 lo2
  rw [← em8] at ordL
  clear em8
  obtain ⟨d0, d1, d2, d3⟩ := (unhide S8).cells
  go_wp2_with fail
  refine (unhide q6).mono ?_
  rintro e w9 ⟨rfl, hk9, m9, tv9, hv9, hc9, htk9⟩
  obtain ⟨zz1, zz2, zz3, zz4, zz5, zz6, zz7, zz8, zz9, zz10, zz11, zz12, zz13, zz14⟩ := unhide ZZ
  have em9 : m9 = takeM mtr TR := by rw [htk9.hm, List.take_length]
  have S9 := hide (show SyS B6 (B6 + 1) bl cl br cr (len + TL.length) (len' + TR.length) tv8 tv9 m8 m9 w9 from ⟨hk9.row (unhide S8).r6 (by omega) (by omega), hk9.row (unhide S8).r7 (by omega) (by omega), (unhide S8).vl.kept2 hk9 (by omega) (by omega), (unhide S8).ml.kept2 hk9 (by omega) (by omega), hv9, hc9⟩)
  have B9 := hide (hk9.below (unhide B8) (unhide B8).size zz3 zz4)
  rw [← em9] at ordR
  clear hv9 hc9 htk9 hk9 q6 S8 B8 em9 d0 d1 d2 d3 zz1 zz2 zz3 zz4 zz5 zz6 zz7 zz8 zz9 zz10 zz11 zz12 zz13 zz14
  obtain ⟨d0, d1, d2, d3⟩ := (unhide S9).cells
  obtain ⟨D1, how1, hD1⟩ := (unhide S9).ml
  obtain ⟨D2, how2, hD2⟩ := (unhide S9).mr
  have HSZ1 := hide (size_ord how1 hD1 (unhide ordL).2 (unhide ordL).1)
  have HSZ2 := hide (size_ord how2 hD2 (unhide ordR).2 (unhide ordR).1)
  have HOW1 := hide how1
  have HOW2 := hide how2
  have hRL : (syX l l').length ≤ 1000 := by have := recv_len l TL; rw [unhide eL] at this; have h2 := unhide hll; omega
  have hRR : (syX l' l).length ≤ 1000 := by have := recv_len l' TR; rw [unhide eR] at this; have h2 := unhide hll'; omega
  clear how1 how2 hD1 hD2 ORD ORD'
  have SG := hide (show SyG l l' from ⟨unhide LG, unhide LG'⟩)
  by_cases hq1 : 200 < ((syX l l').length : Int)
  · have yes : Hid (SyP l l' [] []) := hide (.inr ⟨unhide SG, .inl ⟨.inl (by omega), rfl, rfl⟩⟩)
    go_wp2_with (at_len; refine wpList_len_own _ rfl _ 50 rfl 43 46 Try.underlying50 hvR cl _ D1 rfl (unhide HOW1) ?_; rw [unhide HSZ1])
    refine bodyPost_ret (v := .tuple #[.slice none 0 0, .slice none 0 0]) (by simp [results, Try.results7, go_sem]) rfl ⟨⟨_, _, [], [], rfl, unhide yes, World.ownsRow_nil _ _ _ _, World.ownsRow_nil _ _ _ _, dj_nil _⟩, unhide B9⟩
  have dq1 : decide (200 < ((syX l l').length : Int)) = false := by simp; omega
  by_cases hq2 : 200 < ((syX l' l).length : Int)
  · have yes : Hid (SyP l l' [] []) := hide (.inr ⟨unhide SG, .inl ⟨.inr (by omega), rfl, rfl⟩⟩)
    go_wp2_with (first
      | (at_len; refine wpList_len_own _ rfl _ 50 rfl 43 46 Try.underlying50 hvR cl _ D1 rfl (unhide HOW1) ?_; rw [unhide HSZ1])
      | (at_len; refine wpList_len_want _ (by rfl) _ 50 rfl 43 46 Try.underlying50 hvR cr _ D2 rfl (unhide HOW2) ?_; rw [unhide HSZ2]))
    refine bodyPost_ret (v := .tuple #[.slice none 0 0, .slice none 0 0]) (by simp [results, Try.results7, go_sem]) rfl ⟨⟨_, _, [], [], rfl, unhide yes, World.ownsRow_nil _ _ _ _, World.ownsRow_nil _ _ _ _, dj_nil _⟩, unhide B9⟩
  have yes : Hid (SyP l l' (syX l l') (syX l' l)) := hide (.inr ⟨unhide SG, .inr ⟨by omega, rfl, rfl⟩⟩)
  have qo1 := hide (fun W (h : SyS B6 (B6 + 1) bl cl br cr (len + TL.length) (len' + TR.length) tv8 tv9 m8 m9 W) => inOrder_cm bl cl (len + TL.length) m8 W h.ml (by omega) (unhide ordL).2)
  have qo2 := hide (fun W (h : SyS B6 (B6 + 1) bl cl br cr (len + TL.length) (len' + TR.length) tv8 tv9 m8 m9 W) => inOrder_cm br cr (len' + TR.length) m9 W h.mr (by omega) (unhide ordR).2)
  go_wp2_with (first
    | (at_len; refine wpList_len_own _ rfl _ 50 rfl 43 46 Try.underlying50 hvR cl _ D1 rfl (unhide HOW1) ?_; rw [unhide HSZ1])
    | (at_len; refine wpList_len_want _ (by rfl) _ 50 rfl 43 46 Try.underlying50 hvR cr _ D2 rfl (unhide HOW2) ?_; rw [unhide HSZ2]))
  go_region_held3 (fun w' => w'.cell? ⟨B6, 0, none⟩ = some (.map (some bl)) ∧ w'.cell? ⟨B6, 1, none⟩ = some (.map (some cl)) ∧ w'.cell? ⟨B6 + 1, 0, none⟩ = some (.map (some br)) ∧ w'.cell? ⟨B6 + 1, 1, none⟩ = some (.map (some cr)))
    (first
      | exact (unhide S9).cells
      | exact (unhide S9).drew.cells
      | exact (unhide S10).cells
      | exact (unhide S11).cells)
    (first
      | (go_at_call_of 21 cl; refine (unhide qo1 _ (by first | exact unhide S9 | exact (unhide S9).drew)).mono ?_; rintro e w10 ⟨⟨v1, L1, rfl, hL1, _, ho1⟩, hb10⟩; have S10 := hide (show SyS B6 (B6 + 1) bl cl br cr (len + TL.length) (len' + TR.length) tv8 tv9 m8 m9 w10 from by first | exact (unhide S9).keep hb10 | exact (unhide S9).drew.keep hb10))
      | (go_at_call_of 21 cr; refine (unhide qo2 _ (unhide S10)).mono ?_; rintro e w11 ⟨⟨v2, L2, rfl, hL2, _, ho2⟩, hb11⟩; have S11 := hide ((unhide S10).keep hb11)))
  obtain rfl := hL1.uniq (unhide ordL).1
  obtain rfl := hL2.uniq (unhide ordR).1
  have DJ9 := hide (DJ.of (fun g e => (ho1.lt g e).2) (fun g e => (ho2.lt g e).1))
  have B10 := show Below w.heap.size w w10 from bTr (unhide B9) (show Below w9.heap.size w9 w10 from ⟨hb10.os, hb10.tape, hb10.output, hb10.size, hb10.block⟩)
  have O1 := hide (own_base2 (own_keep ho1 hb11) (unhide B9).size)
  have O2 := hide (own_base2 ho2 B10.size)
  have B11 := hide (bTr B10 hb11)
  clear ho1 ho2 hb10 hb11 hL1 hL2 S9 S10 S11 B10 d0 d1 d2 d3
  go_wp2_with fail
  exact bodyPost_ret (v := .tuple #[v1, v2]) (by simp [results, Try.results7, go_sem]) rfl ⟨⟨_, _, _, _, rfl, unhide yes, unhide O1, unhide O2, unhide DJ9⟩, unhide B11⟩
end Go.Proofs.Ytpdnimchmgbijaa
/- spec.Sync. -/
namespace Go.Proofs.Ytpdnimchmgbijaa
open Go.RowKit Go.Maps

set_option maxRecDepth 100000 in
set_option maxHeartbeats 2000000 in
theorem sSync_any (ad : Addr) (len cap : Nat) (l : List DcT) (ad' : Addr) (len' cap' : Nat) (l' : List DcT) (w : World) (hl : len ≤ maxLen) (hs : SlC w (some ad) len l) (hok : ∀ q ∈ l, DcT.Ok q) (hl' : len' ≤ maxLen) (hs' : SlC w (some ad') len' l') (hok' : ∀ q ∈ l', DcT.Ok q) :
    Calls Try.prog 5 #[.slice (some ad) len cap, .slice (some ad') len' cap'] w fun e w' => (∃ v u r s, e = .returned (.tuple #[v, u]) ∧ SyP l l' r s ∧ w'.ownsRow w.heap.size 46 9 v r.length (dcsV r) ∧ w'.ownsRow w.heap.size 46 9 u s.length (dcsV s) ∧ DJ v u) ∧ Below w.heap.size w w' := by
  have q1 := hide (sGoodLog_any (some ad) len cap l w hl hs hok)
  have q2 := hide (fun w hs => sGoodLog_any (some ad') len' cap' l' w hl' hs hok')
  have HS := hide hs
  have HS' := hide hs'
  have hll := hide hs.1
  have hll' := hide hs'.1
  have v1 := hide (fun w hs => l4Vector_any (some ad) len cap l w hl hs)
  have v2 := hide (fun w hs => l4Vector_any (some ad') len' cap' l' w hl' hs)
  clear hs hok hl hs' hok' hl'
  go_enter Try.func5, Try.ntmps5
  go_wp2_with fail
  refine (unhide q1).mono ?_
  rintro e w1 ⟨⟨t1, rfl, ht1⟩, hb1⟩
  have B1 := hide hb1
  replace HS := hide ((unhide HS).keep hb1)
  replace HS' := hide ((unhide HS').keep hb1)
  have HT1 := hide ht1
  clear hb1 q1 ht1
  cases t1
  · have no : Hid (SyP l l' [] []) := hide (.inl ⟨fun h => (by have := (unhide HT1).2 h.1; cases this), rfl, rfl⟩)
    go_wp2_with fail
    exact bodyPost_ret (v := .tuple #[.slice none 0 0, .slice none 0 0]) (by simp [results, Try.results5, go_sem]) rfl ⟨⟨_, _, [], [], rfl, unhide no, World.ownsRow_nil _ _ _ _, World.ownsRow_nil _ _ _ _, dj_nil _⟩, unhide B1⟩
  have LG := hide ((unhide HT1).1 rfl)
  clear HT1
  go_wp2_with fail
  refine (unhide q2 _ (unhide HS')).mono ?_
  rintro e w2 ⟨⟨t2, rfl, ht2⟩, hb2⟩
  have B2 := hide (bTr (unhide B1) hb2)
  replace HS := hide ((unhide HS).keep hb2)
  replace HS' := hide ((unhide HS').keep hb2)
  have HT2 := hide ht2
  clear hb2 q2 ht2 B1
  cases t2
  · have no : Hid (SyP l l' [] []) := hide (.inl ⟨fun h => (by have := (unhide HT2).2 h.2; cases this), rfl, rfl⟩)
    go_wp2_with fail
    exact bodyPost_ret (v := .tuple #[.slice none 0 0, .slice none 0 0]) (by simp [results, Try.results5, go_sem]) rfl ⟨⟨_, _, [], [], rfl, unhide no, World.ownsRow_nil _ _ _ _, World.ownsRow_nil _ _ _ _, dj_nil _⟩, unhide B2⟩
  have LG' := hide ((unhide HT2).1 rfl)
  clear HT2
  have SG := hide (show SyG l l' from ⟨unhide LG, unhide LG'⟩)
  have hlen : len ≤ 200 := by have := (unhide LG).1; rw [← unhide hll] at this; exact this
  have hlen' : len' ≤ 200 := by have := (unhide LG').1; rw [← unhide hll'] at this; exact this
  obtain ⟨V1, hV1⟩ : ∃ V, V = vecTo l 100 := ⟨_, rfl⟩
  obtain ⟨V2, hV2⟩ : ∃ V, V = vecTo l' 100 := ⟨_, rfl⟩
  have hv1 : V1.length ≤ 100 := by rw [hV1]; exact vecTo_len l 100
  have hv2 : V2.length ≤ 100 := by rw [hV2]; exact vecTo_len l' 100
  rw [← hV1] at v1
  rw [← hV2] at v2
  obtain ⟨X1, hX1⟩ : ∃ X, X = syX l l' := ⟨_, rfl⟩
  obtain ⟨X2, hX2⟩ : ∃ X, X = syX l' l := ⟨_, rfl⟩
  have eX1 := hide (show recv l (msg l' V1) = X1 by rw [hX1, hV1]; rfl)
  have eX2 := hide (show recv l' (msg l V2) = X2 by rw [hX2, hV2]; rfl)
  have hm1 : (msg l' V1).length ≤ 200 := by have : (msg l' V1).length ≤ l'.length := List.length_filter_le _ _; rw [← unhide hll'] at this; omega
  have hm2 : (msg l V2).length ≤ 200 := by have : (msg l V2).length ≤ l.length := List.length_filter_le _ _; rw [← unhide hll] at this; omega
  have hx1 : X1.length ≤ 1000 := by have := recv_len l (msg l' V1); rw [unhide eX1, ← unhide hll] at this; omega
  have hx2 : X2.length ≤ 1000 := by have := recv_len l' (msg l V2); rw [unhide eX2, ← unhide hll'] at this; omega
  have YES1 := hide (show 200 < X1.length ∨ 200 < X2.length → SyP l l' [] [] from fun h => .inr ⟨unhide SG, .inl ⟨by rw [← hX1, ← hX2]; exact h, rfl, rfl⟩⟩)
  have YES2 := hide (show ¬ (200 < X1.length ∨ 200 < X2.length) → SyP l l' X1 X2 from fun h => .inr ⟨unhide SG, .inr ⟨by rw [← hX1, ← hX2]; exact h, hX1, hX2⟩⟩)
  clear hV1 hV2 hX1 hX2 SG LG LG'
  obtain ⟨M1, hM1⟩ : ∃ M, M = msg l' V1 := ⟨_, rfl⟩
  obtain ⟨M2, hM2⟩ : ∃ M, M = msg l V2 := ⟨_, rfl⟩
  rw [← hM1] at hm1 eX1
  rw [← hM2] at hm2 eX2
  have HM1 := hide hM1
  have HM2 := hide hM2
  clear hM1 hM2
  -- the first
  go_wp2_with fail
  refine (unhide v1 _ (unhide HS)).mono ?_
  rintro e w3 ⟨⟨u3, rfl, ho3⟩, hb3⟩
  obtain ⟨a3, c3, rfl, sl3⟩ := own_sts ho3
  have B3 := hide (bTr (unhide B2) hb3)
  replace HS := hide ((unhide HS).keep hb3)
  replace HS' := hide ((unhide HS').keep hb3)
  have q3 := hide (l4Missing_any (some ad') len' cap' l' a3 V1.length c3 V1 w3 (by omega) (unhide HS') (by unfold maxLen; omega) sl3)
  rw [← unhide HM1] at q3
  clear hb3 ho3 sl3 B2 v1
  generalize V1.length = n3 at q3 ⊢
  go_wp2_with fail
  refine (unhide q3).mono ?_
  rintro e w4 ⟨⟨u4, rfl, ho4⟩, hb4⟩
  obtain ⟨a4, c4, rfl, sl4⟩ := own_dcs ho4
  have B4 := hide (bTr (unhide B3) hb4)
  replace HS := hide ((unhide HS).keep hb4)
  replace HS' := hide ((unhide HS').keep hb4)
  have q4 := hide (l4Receive_any ad len cap l a4 M1.length c4 M1 w4 (by omega) (unhide HS) (by omega) sl4)
  rw [unhide eX1] at q4
  clear hb4 ho4 sl4 B3 q3
  generalize M1.length = n4 at q4 ⊢
  go_wp2_with fail
  refine (unhide q4).mono ?_
  rintro e w5 ⟨⟨x1, rfl, ho5⟩, hb5⟩
  have O5 := hide ho5
  have hi5 := hide (fun g e => (ho5.lt g e).2)
  have B5 := hide (bTr (unhide B4) hb5)
  have z5 := hide (unhide B4).size
  replace HS := hide ((unhide HS).keep hb5)
  replace HS' := hide ((unhide HS').keep hb5)
  clear hb5 ho5 B4 q4
  -- the second
  go_wp2_with fail
  refine (unhide v2 _ (unhide HS')).mono ?_
  rintro e w6 ⟨⟨u6, rfl, ho6⟩, hb6⟩
  obtain ⟨a6, c6, rfl, sl6⟩ := own_sts ho6
  have B6 := hide (bTr (unhide B5) hb6)
  replace O5 := hide (own_keep (unhide O5) hb6)
  replace HS := hide ((unhide HS).keep hb6)
  replace HS' := hide ((unhide HS').keep hb6)
  have y6 := hide hb6.size
  have q6 := hide (l4Missing_any (some ad) len cap l a6 V2.length c6 V2 w6 (by omega) (unhide HS) (by unfold maxLen; omega) sl6)
  rw [← unhide HM2] at q6
  clear hb6 ho6 sl6 B5 v2
  generalize V2.length = n6 at q6 ⊢
  go_wp2_with fail
  refine (unhide q6).mono ?_
  rintro e w7 ⟨⟨u7, rfl, ho7⟩, hb7⟩
  obtain ⟨a7, c7, rfl, sl7⟩ := own_dcs ho7
  have B7 := hide (bTr (unhide B6) hb7)
  replace O5 := hide (own_keep (unhide O5) hb7)
  replace HS := hide ((unhide HS).keep hb7)
  replace HS' := hide ((unhide HS').keep hb7)
  have y7 := hide (Nat.le_trans (unhide y6) hb7.size)
  have q7 := hide (l4Receive_any ad' len' cap' l' a7 M2.length c7 M2 w7 (by omega) (unhide HS') (by omega) sl7)
  rw [unhide eX2] at q7
  clear hb7 ho7 sl7 B6 q6
  generalize M2.length = n7 at q7 ⊢
  go_wp2_with fail
  refine (unhide q7).mono ?_
  rintro e w8 ⟨⟨x2, rfl, ho8⟩, hb8⟩
  have DJ9 := hide (DJ.of (fun g e => unhide hi5 g e) (fun g e => by have h1 := (ho8.lt g e).1; have h2 := unhide y7; omega))
  replace O5 := hide (own_base2 (own_keep (unhide O5) hb8) (unhide z5))
  have O8 := hide (own_base2 ho8 (unhide B7).size)
  have B8 := hide (bTr (unhide B7) hb8)
  clear ho8 hb8 q7 B7 hi5
  obtain ⟨a5, c5, rfl, _⟩ := own_dcs (unhide O5)
  obtain ⟨a8, c8, rfl, _⟩ := own_dcs (unhide O8)
  by_cases hq1 : 200 < (X1.length : Int)
  · have yes : Hid (SyP l l' [] []) := hide (unhide YES1 (.inl (by omega)))
    go_wp2_with fail
    exact bodyPost_ret (v := .tuple #[.slice none 0 0, .slice none 0 0]) (by simp [results, Try.results5, go_sem]) rfl ⟨⟨_, _, [], [], rfl, unhide yes, World.ownsRow_nil _ _ _ _, World.ownsRow_nil _ _ _ _, dj_nil _⟩, unhide B8⟩
  have dq1 : decide (200 < (X1.length : Int)) = false := by simp; omega
  by_cases hq2 : 200 < (X2.length : Int)
  · have yes : Hid (SyP l l' [] []) := hide (unhide YES1 (.inr (by omega)))
    go_wp2_with fail
    exact bodyPost_ret (v := .tuple #[.slice none 0 0, .slice none 0 0]) (by simp [results, Try.results5, go_sem]) rfl ⟨⟨_, _, [], [], rfl, unhide yes, World.ownsRow_nil _ _ _ _, World.ownsRow_nil _ _ _ _, dj_nil _⟩, unhide B8⟩
  have yes : Hid (SyP l l' X1 X2) := hide (unhide YES2 (by omega))
  go_wp2_with fail
  exact bodyPost_ret (v := .tuple #[_, _]) (by simp [results, Try.results5, go_sem]) rfl ⟨⟨_, _, _, _, rfl, unhide yes, unhide O5, unhide O8, unhide DJ9⟩, unhide B8⟩
end Go.Proofs.Ytpdnimchmgbijaa
