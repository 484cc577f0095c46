/- KCr, KCs, one behind the other. -/
import Derived.Test.YtdflnjjomljgmaaGreatDoorJ30
import Derived.Test.YtdflnjjomljgmaaGreatDoorJ31
import Derived.Lib.BufferRead
/- CheckCap: a capability that is made anew, term by term. -/
namespace Go.Proofs.YtdflnjjomljgmaaGreatDoor.D
open Go.RowKit
set_option maxRecDepth 20000

/-- The tags on the way. -/
def tgs (k0 : List UInt8) (T : List V.CavTermT) : List UInt8 := T.foldl (fun k t => mac k (V.termX t).data.toList) k0
theorem tgs_snoc (k0 : List UInt8) (T : List V.CavTermT) (t : V.CavTermT) : tgs k0 (T ++ [t]) = mac (tgs k0 T) (V.termX t).data.toList := by simp [tgs]
theorem tgs_cons (k0 : List UInt8) (t : V.CavTermT) (T : List V.CavTermT) : tgs k0 (t :: T) = tgs (mac k0 (V.termX t).data.toList) T := by simp only [tgs, List.foldl_cons]
theorem tgs_len (T : List V.CavTermT) : ∀ k0 : List UInt8, k0.length = 16 → (tgs k0 T).length = 16 := by
  induction T with
  | nil => intro k0 h; exact h
  | cons t T ih =>
    intro k0 _
    rw [tgs_cons]
    exact ih _ (mac_len ..)
/-- What lies in the box after k terms. -/
structure MkA (base : Nat) (T : List V.CavTermT) (k0 : List UInt8) (k : Nat) (v1 v2 : Value) (W : World) : Prop where
  o1 : W.ownsRow base 58 7 v1 (T.take k).length (V.CavTermsV (T.take k))
  o2 : W.ownsRow base 5 1 v2 (tgs k0 (T.take k)).length ((tgs k0 (T.take k)).map byteV)
theorem MkA.keep {base : Nat} {T : List V.CavTermT} {k0 : List UInt8} {k : Nat} {v1 v2 : Value} {W W' : World} (h : MkA base T k0 k v1 v2 W) (hb : Below W.heap.size W W') : MkA base T k0 k v1 v2 W' := ⟨own_keepA h.o1 hb, own_keepA h.o2 hb⟩
theorem own_full {w : World} {base e size n : Nat} {v : Value} {xs : List Value} (h : w.ownsRow base e size v n xs) : ∃ a cap, v = .slice a n cap ∧ n ≤ cap ∧ (a = none → cap = 0) := by
  rcases h.2 with ⟨h1, h2⟩ | ⟨g, cap, cur, h1, _, _, h3, _⟩
  · exact ⟨none, 0, by rw [h1, h2], by omega, fun _ => rfl⟩
  · exact ⟨_, cap, h1, h3, fun e => by cases e⟩
theorem good_take {id : ByteArray} {T : List V.CavTermT} {n : Nat} (h : V.GoodC id T n) (k : Nat) : V.GoodC id (T.take k) 16 :=
  ⟨h.1, ⟨by have := h.2.1.1; have h2 : (T.take k).length ≤ T.length := by simp; exact Nat.min_le_right _ _
            omega, fun x hx => h.2.1.2 x (List.mem_of_mem_take hx)⟩, rfl⟩
theorem attP_take {id : ByteArray} {T : List V.CavTermT} {n : Nat} (h : V.GoodC id T n) {k : Nat} (hk : k < T.length) : AttP id (T.take k) T[k] 16 :=
  ⟨good_take h k, h.2.1.2 _ (List.getElem_mem hk), by have := h.2.1.1; simp; omega⟩
/-- One term more, by the specification. -/
theorem sMake_step {base : Nat} {id : ByteArray} {T : List V.CavTermT} {k0 : List UInt8} {n k : Nat} {v1 v2 : Value} {W : World} (h : MkA base T k0 k v1 v2 W) (hG : V.GoodC id T n) (h0 : k0.length = 16) (hid : id.size ≤ maxLen) (ok : ∀ q ∈ T, V.CavTermT.Ok q) (hk : k < T.length) (a1 a2 : Option Addr) (n1 c1 n2 c2 : Nat) (e1 : v1 = .slice a1 n1 c1) (e2 : v2 = .slice a2 n2 c2) :
    Calls Tryz.prog 22 #[.agg #[.string id, .slice a1 n1 c1, .slice a2 n2 c2], .agg #[.string T[k].f0, .int .i64 T[k].f1, .string T[k].f2, .int .i64 T[k].f3, .int .i64 T[k].f4, .string T[k].f5, .string T[k].f6]] W fun e w' => (∃ p1 p2 m1 d1 m2 d2, e = .returned (.agg #[.string id, .slice p1 m1 d1, .slice p2 m2 d2]) ∧ MkA W.heap.size T k0 (k + 1) (.slice p1 m1 d1) (.slice p2 m2 d2) w') ∧ Below W.heap.size W w' := by
  subst e1 e2
  have zT : (T.take k).length = k := by simp; omega
  have zG := tgs_len (T.take k) k0 h0
  obtain ⟨x1, y1, q1, f1, g1⟩ := own_full h.o1
  obtain ⟨x2, y2, q2, f2, g2⟩ := own_full h.o2
  cases q1
  cases q2
  obtain ⟨x3, y3, q3, s1⟩ := V.own_CavTerm h.o1
  obtain ⟨x4, y4, q4, s2⟩ := own_sl h.o2
  cases q3
  cases q4
  have hz : T.length ≤ 20 := by have := hG.2.1.1; omega
  refine (sAttenuate_any id a1 a2 _ c1 c2 (T.take k) (tgs k0 (T.take k)) T[k] W hid (by omega) s1 (fun q hq => ok q (List.mem_of_mem_take hq)) s2 (by omega) (ok _ (List.getElem_mem hk)) f1 g1).mono ?_
  rintro e w' ⟨⟨u1, u2, I, T', G', hA, rfl, o1, o2⟩, hbb⟩
  obtain ⟨rfl, hT, hGG⟩ := hA.yes (by rw [zG]; exact attP_take hG hk)
  rw [← tgs_snoc] at hGG
  have et : T.take k ++ [T[k]] = T.take (k + 1) := (List.take_succ_eq_append_getElem hk).symm
  rw [et] at hT hGG
  subst hT hGG
  obtain ⟨p1, d1, rfl⟩ := own_form o1
  obtain ⟨p2, d2, rfl⟩ := own_form o2
  exact ⟨⟨p1, p2, _, d1, _, d2, rfl, o1, o2⟩, hbb⟩
/-- One term more, by the program. -/
theorem iMake_step {base : Nat} {id : ByteArray} {T : List V.CavTermT} {k0 : List UInt8} {n k : Nat} {v1 v2 : Value} {W : World} (h : MkA base T k0 k v1 v2 W) (hG : V.GoodC id T n) (h0 : k0.length = 16) (hid : id.size ≤ maxLen) (ok : ∀ q ∈ T, V.CavTermT.Ok q) (hk : k < T.length) (a1 a2 : Option Addr) (n1 c1 n2 c2 : Nat) (e1 : v1 = .slice a1 n1 c1) (e2 : v2 = .slice a2 n2 c2) (hM : Mults W) (hS : V.Signs W) (hT : Tab W) :
    Calls Tryz.prog 55 #[.agg #[.string id, .slice a1 n1 c1, .slice a2 n2 c2], .agg #[.string T[k].f0, .int .i64 T[k].f1, .string T[k].f2, .int .i64 T[k].f3, .int .i64 T[k].f4, .string T[k].f5, .string T[k].f6]] W fun e w' => (∃ p1 p2 m1 d1 m2 d2, e = .returned (.agg #[.string id, .slice p1 m1 d1, .slice p2 m2 d2]) ∧ MkA W.heap.size T k0 (k + 1) (.slice p1 m1 d1) (.slice p2 m2 d2) w') ∧ Below W.heap.size W w' := by
  subst e1 e2
  have zT : (T.take k).length = k := by simp; omega
  have zG := tgs_len (T.take k) k0 h0
  obtain ⟨x1, y1, q1, f1, g1⟩ := own_full h.o1
  obtain ⟨x2, y2, q2, f2, g2⟩ := own_full h.o2
  cases q1
  cases q2
  obtain ⟨x3, y3, q3, s1⟩ := V.own_CavTerm h.o1
  obtain ⟨x4, y4, q4, s2⟩ := own_sl h.o2
  cases q3
  cases q4
  have hz : T.length ≤ 20 := by have := hG.2.1.1; omega
  refine (iAttenuate_any id a1 a2 _ c1 c2 (T.take k) (tgs k0 (T.take k)) T[k] W hid (by omega) s1 (fun q hq => ok q (List.mem_of_mem_take hq)) s2 (by omega) (ok _ (List.getElem_mem hk)) f1 g1 hM hS hT).mono ?_
  rintro e w' ⟨⟨u1, u2, I, T', G', hA, rfl, o1, o2⟩, hbb⟩
  obtain ⟨rfl, hTT, hGG⟩ := hA.yes (by rw [zG]; exact attP_take hG hk)
  rw [← tgs_snoc] at hGG
  have et : T.take k ++ [T[k]] = T.take (k + 1) := (List.take_succ_eq_append_getElem hk).symm
  rw [et] at hTT hGG
  subst hTT hGG
  obtain ⟨p1, d1, rfl⟩ := own_form o1
  obtain ⟨p2, d2, rfl⟩ := own_form o2
  exact ⟨⟨p1, p2, _, d1, _, d2, rfl, o1, o2⟩, hbb⟩
end Go.Proofs.YtdflnjjomljgmaaGreatDoor.D
/- isGenuine: the tags of a capability that is made anew. -/
namespace Go.Proofs.YtdflnjjomljgmaaGreatDoor.D
open Go.RowKit
set_option maxRecDepth 20000

theorem conv_slC {w : World} {B : Nat} {a : Option Addr} {len : Nat} {l : List UInt8} (h : SlB w B a len l) (cap : Nat) : (convert 22 9 (.slice a len cap)).run Tryz.prog w = .ok (.string ⟨l.toArray⟩) w := by
  rcases h.2 with rfl | ⟨b, off, rfl, _, r⟩
  · obtain rfl : len = 0 := h.1
    cases a with
    | none => exact Go.Lib.run_convert_nil_bytes w 22 9 5 cap Tryz.underlying22 Tryz.underlying5 Tryz.underlying9
    | some a => exact run_convert_bytes_back w 22 9 5 a cap [] Tryz.underlying22 Tryz.underlying5 Tryz.underlying9 (fun j hj => absurd hj (Nat.not_lt_zero _))
  · rw [h.1]
    refine run_convert_bytes_back w 22 9 5 _ cap l Tryz.underlying22 Tryz.underlying5 Tryz.underlying9 (fun j hj => ?_)
    have := r.c j hj
    rw [show (⟨b, off, none⟩ : Addr).add j = ⟨b, off + j, none⟩ by simp only [Addr.add]; split <;> simp_all]
    exact this
theorem equalC_any (a1 a2 : Option Addr) (n1 c1 n2 c2 : Nat) (l m : List UInt8) (w : World) (h1 : SlB w w.heap.size a1 n1 l) (h2 : SlB w w.heap.size a2 n2 m) :
    Calls Tryz.prog 56 #[.slice a1 n1 c1, .slice a2 n2 c2] w fun e w' => e = .returned (.bool (decide (l = m))) ∧ w = w' := by
  have e1 := conv_slC h1 c1
  have e2 := conv_slC h2 c2
  go_enter Tryz.func56, Tryz.ntmps56
  go_wp2_with fail
  go_ret
  exact ⟨congrArg (fun b => Ending.returned (.bool b)) (by rw [Bool.eq_iff_iff]; simp), rfl⟩
/-- What lies in the box, and that the box is none of it. -/
structure MkN (g : Nat) (T : List V.CavTermT) (k0 : List UInt8) (k : Nat) (v1 v2 : Value) (W : World) : Prop where
  m : MkA 0 T k0 k v1 v2 W
  n1 : ∀ x, v1.ownBlock = some x → x ≠ g
  n2 : ∀ x, v2.ownBlock = some x → x ≠ g
theorem MkN.keep {g : Nat} {T : List V.CavTermT} {k0 : List UInt8} {k : Nat} {v1 v2 : Value} {W W' : World} (h : MkN g T k0 k v1 v2 W) (hb : Below W.heap.size W W') : MkN g T k0 k v1 v2 W' := ⟨h.m.keep hb, h.n1, h.n2⟩
theorem MkA.box {base g : Nat} {T : List V.CavTermT} {k0 : List UInt8} {k : Nat} {v1 v2 : Value} {W : World} (h : MkA base T k0 k v1 v2 W) (hg : g < base) (u0 u1 u2 : Value) :
    MkN g T k0 k v1 v2 (((W.setCell ⟨g, 0, none⟩ u0).setCell ⟨g, 1, none⟩ u1).setCell ⟨g, 2, none⟩ u2) :=
  ⟨⟨own_set3A h.o1 (Nat.zero_le _) hg, own_set3A h.o2 (Nat.zero_le _) hg⟩, fun x e => by have := (h.o1.lt x e).1; omega, fun x e => by have := (h.o2.lt x e).1; omega⟩
theorem MkN.start {base : Nat} {T : List V.CavTermT} {k0 : List UInt8} {v : Value} {W : World} (h : W.ownsRow base 5 1 v k0.length (k0.map byteV)) (o : Obj) :
    MkN W.heap.size T k0 0 (.slice none 0 0) v (W.alloc o) :=
  ⟨⟨World.ownsRow_nil _ _ _ _, own_keepA (own_baseA h (Nat.zero_le _)) (bAl (Below.refl _ _) _)⟩, (fun x e => by cases e), fun x e => by have := (h.lt x e).2; omega⟩
theorem MkN.tag {g : Nat} {T : List V.CavTermT} {k0 : List UInt8} {v1 v2 : Value} {W : World} {k : Nat} (h : MkN g T k0 k v1 v2 W) (hk : k = T.length) : ∃ a cap, v2 = .slice a (tgs k0 T).length cap ∧ SlB W W.heap.size a (tgs k0 T).length (tgs k0 T) := by
  subst hk
  have := h.m.o2
  rw [List.take_length] at this
  exact own_sl this
abbrev capB (id : ByteArray) (v1 v2 : Value) : Array Value := #[.string id, v1, v2]
set_option maxHeartbeats 2000000 in
theorem isGenuine_any (id : ByteArray) (at' ag ak : Option Addr) (lt ct cg lk ck : Nat) (T : List V.CavTermT) (G K : List UInt8) (w : World) (hid : id.size ≤ maxLen) (hs : V.SlCavTerm w at' lt T) (ok : ∀ q ∈ T, V.CavTermT.Ok q) (hg : SlB w w.heap.size ag G.length G) (hk : SlB w w.heap.size ak lk K) (hlk : lk ≤ 64) (hG : V.GoodC id T G.length) (hM : Mults w) (hSg : V.Signs w) (hT : Tab w) :
    Calls Tryz.prog 32 #[V.capV id at' ag lt ct G.length cg, .slice ak lk ck] w fun e w' => e = .returned (.bool (decide (tgs (mac K id.data.toList) T = G))) ∧ Below w.heap.size w w' := by
  obtain ⟨W, hW⟩ : ∃ W, W = w.alloc (.cells (V.capC id at' ag lt ct G.length cg) 38) := ⟨_, rfl⟩
  have B := hide (show Below w.heap.size w W by rw [hW]; exact bAl (Below.refl _ _) _)
  have R := hide (show RowIs W w.heap.size (V.capC id at' ag lt ct G.length cg) 38 by rw [hW]; exact RowIs.new _ _ _)
  have S := hide (hs.keep (unhide B))
  have SG := hide ((hg.keep (unhide B)).mono (unhide B).size)
  have SK := hide ((hk.keep (unhide B)).mono (unhide B).size)
  have M := hide (hM.keepB (unhide B) hM.1)
  have X := hide (hSg.keep (unhide B))
  have Y := hide (hT.keep (unhide B))
  have HW := hide hW.symm
  have HLL := hide hs.1
  have HO := hide ok
  have HG := hide hG
  have HI := hide hid
  have zi := idB_le hG.1
  have eI := hide (show capI lk id = id from if_pos ⟨hlk, hG.1⟩)
  have eG := hide (show capG lk K id = mac K id.data.toList from if_pos ⟨hlk, hG.1⟩)
  have q0 := hide (fun w hs hM => iMakeCap_any ak lk ck K id w (by omega) (by omega) hs hM)
  have L20 : lt ≤ 20 := by have h1 := hG.2.1.1; have h2 := hs.1; omega
  have z0 := hide (mac_len K id.data.toList)
  generalize mac K id.data.toList = K0 at eG z0 ⊢
  clear hW hs ok hg hk hG hM hSg hT hid hlk
  have x0 := (unhide R).at (o := 0) (v := .string id) rfl
  have zx := (unhide R).lt
  go_enter Tryz.func32, Tryz.ntmps32
  go_upto_region 1 with fail
  rw [unhide HW]
  go_wp2_with fail
  refine (unhide q0 _ (unhide SK) (unhide M)).mono ?_
  rintro e w1 ⟨⟨v, D, hD, rfl, ho⟩, hb1⟩
  have hD' := (unhide hD).trans (unhide eG)
  clear hD
  subst hD'
  rw [unhide eI]
  have B1 := hide (bTr (unhide B) hb1)
  have R1 := hide ((unhide R).keep hb1)
  have S1 := hide ((unhide S).keep hb1)
  have SG1 := hide (((unhide SG).keep hb1).mono hb1.size)
  have M1 := hide ((unhide M).keepB hb1 (unhide M).1)
  have X1 := hide ((unhide X).keep hb1)
  have Y1 := hide ((unhide Y).keep hb1)
  obtain ⟨av, cv, rfl⟩ := own_form ho
  have N0 := hide (fun o => MkN.start (T := T) ho o)
  have O0 := hide (fun (xs : Array Value) => RowIs.new w1 xs 38)
  clear hb1 B R S SG SK M X Y q0 HW eI eG ho x0 zx
  have x1 := (unhide R1).at (o := 1) (v := .slice at' lt ct) rfl
  have zx := (unhide R1).lt
  go_wp2_with fail
  clear x1 zx
  go_loopw [15] (fun i w' => ∃ (k : Nat) (v1 v2 : Value), k ≤ lt ∧ i = .int .i64 k ∧ Hid (RowIs w' w1.heap.size (capB id v1 v2) 38) ∧ Hid (MkN w1.heap.size T D k v1 v2 w') ∧ Hid (Below w1.heap.size w1 w')) (fun i _ => lt - (Go.RowKit.intOf i).toNat)
  case atStart => exact ⟨0, _, _, Nat.zero_le _, rfl, hide (unhide O0 _), hide (unhide N0 _), hide (bAl (Below.refl _ _) _)⟩
  case round =>
    obtain ⟨k, v1, v2, hk, rfl, hr, hn, hb⟩ := hrel
    obtain ⟨p1, q1, rfl⟩ := own_form (unhide hn).m.o1
    obtain ⟨p2, q2, rfl⟩ := own_form (unhide hn).m.o2
    generalize (T.take k).length = n1 at *
    generalize (tgs D (T.take k)).length = n2 at *
    by_cases hlt : k < lt
    · have hk' : k < T.length := by have := unhide HLL; omega
      obtain ⟨bb_, off, e0, hrow⟩ := ((unhide S1).keep (unhide hb)).at hlt
      subst e0
      have c0 := hrow.c0 k hk'
      have c1 := hrow.c1 k hk'
      have c2 := hrow.c2 k hk'
      have c3 := hrow.c3 k hk'
      have c4 := hrow.c4 k hk'
      have c5 := hrow.c5 k hk'
      have c6 := hrow.c6 k hk'
      have zk := hrow.z
      obtain ⟨W2, hW2⟩ : ∃ W2, W2 = wr.alloc (.cells #[.string T[k].f0, .int .i64 T[k].f1, .string T[k].f2, .int .i64 T[k].f3, .int .i64 T[k].f4, .string T[k].f5, .string T[k].f6] 58) := ⟨_, rfl⟩
      have bW := hide (show Below wr.heap.size wr W2 by rw [hW2]; exact bAl (Below.refl _ _) _)
      have R2 := show RowIs W2 wr.heap.size #[.string T[k].f0, .int .i64 T[k].f1, .string T[k].f2, .int .i64 T[k].f3, .int .i64 T[k].f4, .string T[k].f5, .string T[k].f6] 58 by rw [hW2]; exact RowIs.new _ _ _
      have b2 := hide (bTr (unhide hb) (unhide bW))
      have q := hide (iMake_step ((unhide hn).keep (unhide bW)).m (unhide HG) (unhide z0) (unhide HI) (unhide HO) hk' p1 p2 _ q1 _ q2 rfl rfl ((unhide M1).keepB (unhide b2) (unhide M1).1) ((unhide X1).keep (unhide b2)) ((unhide Y1).keep (unhide b2)))
      have hr2 := hide ((unhide hr).keep (unhide bW))
      clear hrow hr hn
      generalize T[k] = A at *
      have HW2 := hide hW2.symm
      have x0 := R2.at (o := 0) (v := .string A.f0) rfl
      have x1 := R2.at (o := 1) (v := .int .i64 A.f1) rfl
      have x2 := R2.at (o := 2) (v := .string A.f2) rfl
      have x3 := R2.at (o := 3) (v := .int .i64 A.f3) rfl
      have x4 := R2.at (o := 4) (v := .int .i64 A.f4) rfl
      have x5 := R2.at (o := 5) (v := .string A.f5) rfl
      have x6 := R2.at (o := 6) (v := .string A.f6) rfl
      have zx := R2.lt
      have g0 := (unhide hr2).at (o := 0) (v := .string id) rfl
      have g1 := (unhide hr2).at (o := 1) rfl
      have g2 := (unhide hr2).at (o := 2) rfl
      have zg := (unhide hr2).lt
      clear hW2 R2
      go_upto_region 5 with fail
      rw [unhide HW2]
      clear HW2 c0 c1 c2 c3 c4 c5 c6 zk
      go_wp2_with fail
      refine (unhide q).mono ?_
      rintro e w3 ⟨⟨u1, u2, m1, d1, m2, d2, rfl, hm3⟩, hb3⟩
      have B3 := hide (bTr (unhide b2) hb3)
      have R3 := hide ((unhide hr2).keep hb3)
      have M3 := hide hm3
      have zz := hide zg
      clear hb3 bW hb q x0 x1 x2 x3 x4 x5 x6 zx hr2 g0 g1 g2 zg hm3
      have g0 := (unhide R3).at (o := 0) (v := .string id) rfl
      have g1 := (unhide R3).at (o := 1) rfl
      have g2 := (unhide R3).at (o := 2) rfl
      have f0 := (unhide R3).froz 0
      have f1 := (unhide R3).froz 1
      have f2 := (unhide R3).froz 2
      have zg := (unhide R3).lt
      go_wp2_with fail
      exact ⟨⟨k + 1, .slice u1 m1 d1, .slice u2 m2 d2, by omega, by go_num, hide ((((unhide R3).set 0 _).set 1 _).set 2 _), hide ((unhide M3).box (unhide zz) _ _ _), hide ((((unhide B3).setCell (Nat.le_refl _) _).setCell (Nat.le_refl _) _).setCell (Nat.le_refl _) _)⟩, by simp [Go.RowKit.intOf]; omega⟩
    · have ek : k = T.length := by have := unhide HLL; omega
      obtain ⟨a2, d2, e2, s2⟩ := (unhide hn).tag ek
      simp only [Value.slice.injEq] at e2
      obtain ⟨rfl, e3, rfl⟩ := e2
      have q := hide (fun x1 c1 => equalC_any p2 x1 _ q2 G.length c1 (tgs D T) G wr s2)
      have sg := hide (((unhide SG1).keepB (unhide hb)).mono (unhide hb).size)
      have Rc := (unhide R1).keep (unhide hb)
      have x2 := Rc.at (o := 2) (v := .slice ag G.length cg) rfl
      have zx := Rc.lt
      have g2 := (unhide hr).at (o := 2) rfl
      have zg := (unhide hr).lt
      rw [e3] at g2
      clear ek Rc e3 s2 hr hn
      generalize hTG : tgs D T = TG at *
      have HT := hide hTG
      clear hTG
      go_wp2_with fail
      refine (unhide q ag cg (unhide sg)).mono ?_
      rintro e w4 ⟨rfl, rfl⟩
      clear q sg x2 zx g2 zg
      go_wp2_with fail
      go_ret
      exact ⟨by rw [unhide HT]; rfl, bTr (unhide B1) (unhide hb)⟩
end Go.Proofs.YtdflnjjomljgmaaGreatDoor.D
