/- KCu, KCv, one behind the other. -/
import Derived.Test.YtdflnjjomljgmaaGreatDoorJ43
import Derived.Test.YtdflnjjomljgmaaGreatDoorJ41
/- CheckCap by the program. -/
namespace Go.Proofs.YtdflnjjomljgmaaGreatDoor.D
open Go.RowKit
set_option maxRecDepth 20000

/-- All that is kept from call to call. -/
structure Ev (w W : World) (b : Nat) (id : ByteArray) (at' ag ak : Option Addr) (lt ct cg lk : Nat) (T : List V.CavTermT) (G K : List UInt8) (v : V.ValT) (a1 a2 : Option Addr) (l1 c1 l2 c2 : Nat) : Prop where
  hb : Below w.heap.size w W
  r : RowIs W b (V.capC id at' ag lt ct G.length cg) 38
  hv : RowIs W (b + 1) (vC v a1 l1 c1 a2 l2 c2) 43
  s : V.SlCavTerm W at' lt T
  g : SlB W W.heap.size ag G.length G
  k : SlB W W.heap.size ak lk K
  i : V.SlA W a1 l1 v.items
  n : V.SlS W a2 l2 v.names
theorem Ev.keep {w W W' : World} {b : Nat} {id : ByteArray} {at' ag ak : Option Addr} {lt ct cg lk : Nat} {T : List V.CavTermT} {G K : List UInt8} {v : V.ValT} {a1 a2 : Option Addr} {l1 c1 l2 c2 : Nat} (h : Ev w W b id at' ag ak lt ct cg lk T G K v a1 a2 l1 c1 l2 c2) (hb : Below W.heap.size W W') : Ev w W' b id at' ag ak lt ct cg lk T G K v a1 a2 l1 c1 l2 c2 :=
  ⟨bTr h.hb hb, h.r.keep hb, h.hv.keep hb, h.s.keep hb, (h.g.keep hb).mono hb.size, (h.k.keep hb).mono hb.size, h.i.keep hb, h.n.keep hb⟩
def ChkP (lk : Nat) (id : ByteArray) (T : List V.CavTermT) (n : Nat) (v : V.ValT) : Prop := lk ≤ 64 ∧ V.GoodC id T n ∧ V.Rec v
def ChkRet (lk : Nat) (K : List UInt8) (id : ByteArray) (T : List V.CavTermT) (G : List UInt8) (v : V.ValT) (e : Ending) : Prop := ∃ r : Int, e = .returned (.int .i64 r) ∧ (ChkP lk id T G.length v → r = if tgs (mac K id.data.toList) T = G then holdI v T else 0) ∧ (¬ ChkP lk id T G.length v → r = -1)
theorem ChkRet.no {lk : Nat} {K : List UInt8} {id : ByteArray} {T : List V.CavTermT} {G : List UInt8} {v : V.ValT} (h : ¬ ChkP lk id T G.length v) : ChkRet lk K id T G v (.returned (.int .i64 (-1))) := ⟨-1, rfl, fun k => absurd k h, fun _ => rfl⟩
theorem ChkRet.ne {lk : Nat} {K : List UInt8} {id : ByteArray} {T : List V.CavTermT} {G : List UInt8} {v : V.ValT} (h : ChkP lk id T G.length v) (hn : ¬ tgs (mac K id.data.toList) T = G) : ChkRet lk K id T G v (.returned (.int .i64 0)) := ⟨0, rfl, fun _ => by rw [if_neg hn], fun k => absurd h k⟩
theorem ChkRet.eq {lk : Nat} {K : List UInt8} {id : ByteArray} {T : List V.CavTermT} {G : List UInt8} {v : V.ValT} (h : ChkP lk id T G.length v) (hn : tgs (mac K id.data.toList) T = G) : ChkRet lk K id T G v (.returned (.int .i64 (holdI v T))) := ⟨_, rfl, fun _ => by rw [if_pos hn], fun k => absurd h k⟩

set_option maxHeartbeats 4000000 in
theorem iCheckCap_any (id : ByteArray) (at' ag ak : Option Addr) (lt ct cg lk ck : Nat) (T : List V.CavTermT) (G K : List UInt8) (v : V.ValT) (a1 a2 : Option Addr) (l1 c1 l2 c2 : Nat) (w : World) (hid : id.size ≤ maxLen) (hl : lt ≤ 1048576) (hs : V.SlCavTerm w at' lt T) (ok : ∀ q ∈ T, V.CavTermT.Ok q) (hg : SlB w w.heap.size ag G.length G) (hk : SlB w w.heap.size ak lk K) (hlk : lk ≤ 1048576) (hv : v.Ok) (hl1 : l1 ≤ maxLen) (hs1 : V.SlA w a1 l1 v.items) (hs2 : V.SlS w a2 l2 v.names) (hM : Mults w) (hSg : V.Signs w) (hT : Tab w) :
    Calls Tryz.prog 10 #[.slice ak lk ck, V.capV id at' ag lt ct G.length cg, V.vAgg v a1 l1 c1 a2 l2 c2] w fun e w' => ChkRet lk K id T G v e ∧ Below w.heap.size w w' := by
  obtain ⟨W0, hW0⟩ : ∃ W, W = w.alloc (.cells (V.capC id at' ag lt ct G.length cg) 38) := ⟨_, rfl⟩
  obtain ⟨W, hW⟩ : ∃ W, W = W0.alloc (.cells (vC v a1 l1 c1 a2 l2 c2) 43) := ⟨_, rfl⟩
  have z0 : W0.heap.size = w.heap.size + 1 := by rw [hW0]; simp
  have B0 : Below w.heap.size w W0 := by rw [hW0]; exact bAl (Below.refl _ _) _
  have b1 : Below W0.heap.size W0 W := by rw [hW]; exact bAl (Below.refl _ _) _
  have B := hide (bTr B0 b1)
  have R := hide ((show RowIs W0 w.heap.size (V.capC id at' ag lt ct G.length cg) 38 by rw [hW0]; exact RowIs.new _ _ _).keep b1)
  have RV := hide (show RowIs W (w.heap.size + 1) (vC v a1 l1 c1 a2 l2 c2) 43 by rw [hW, ← z0]; exact RowIs.new _ _ _)
  have E := hide (show Ev w W (w.heap.size) id at' ag ak lt ct cg lk T G K v a1 a2 l1 c1 l2 c2 from ⟨unhide B, unhide R, unhide RV, hs.keep (unhide B), (hg.keep (unhide B)).mono (unhide B).size, (hk.keep (unhide B)).mono (unhide B).size, hs1.keep (unhide B), hs2.keep (unhide B)⟩)
  have q0 := hide (fun w (hs : V.SlCavTerm w at' lt T) => V.isGood_any id at' ag lt ct G.length cg T w hid (by rw [← hs.1]; unfold maxLen; omega) hs ok)
  have q1 := hide (fun w hs1 hs2 => V.isGiven_any v hv a1 a2 l1 c1 l2 c2 w hl1 hs1 hs2)
  have HM := hide (hM.keepB (unhide B) hM.1)
  have HX := hide (hSg.keep (unhide B))
  have HY := hide (hT.keep (unhide B))
  have HO := hide ok
  have HI := hide hid
  have HV := hide hv
  have HL1 := hide hl1
  have HLL := hide hs.1
  have HP := hide (fun (h1 : lk ≤ 64) (h2 : V.GoodC id T G.length) (h3 : V.Rec v) => show ChkP lk id T G.length v from ⟨h1, h2, h3⟩)
  have HP1 := hide (fun (h : ¬ lk ≤ 64) (k : ChkP lk id T G.length v) => h k.1)
  have HP2 := hide (fun (h : ¬ V.GoodC id T G.length) (k : ChkP lk id T G.length v) => h k.2.1)
  have HP3 := hide (fun (h : ¬ V.Rec v) (k : ChkP lk id T G.length v) => h k.2.2)
  rw [hW0] at hW
  have HW := hide hW.symm
  clear hW hW0 hs hs1 hs2 hg hk ok hid hv hl1 b1 B0 z0 W0 R RV hl hM hSg hT
  have x0 := (unhide E).r.at (o := 0) (v := .string id) rfl
  have x1 := (unhide E).r.at (o := 1) (v := .slice at' lt ct) rfl
  have x2 := (unhide E).r.at (o := 2) (v := .slice ag G.length cg) rfl
  have zx := (unhide E).r.lt
  have y0 := (unhide E).hv.at (o := 0) (v := .int .i64 v.k) rfl
  have y1 := (unhide E).hv.at (o := 1) (v := .int .i64 v.a.x) rfl
  have y2 := (unhide E).hv.at (o := 2) (v := .int .i64 v.a.n) rfl
  have y3 := (unhide E).hv.at (o := 3) (v := .string v.a.t) rfl
  have y4 := (unhide E).hv.at (o := 4) (v := .string v.a.y) rfl
  have y5 := (unhide E).hv.at (o := 5) (v := .slice a1 l1 c1) rfl
  have y6 := (unhide E).hv.at (o := 6) (v := .slice a2 l2 c2) rfl
  have zy := (unhide E).hv.lt
  go_enter Tryz.func10, Tryz.ntmps10
  go_upto_region 1 with fail
  rw [unhide HW]
  clear HW
  go_wp2_with fail
  refine (goodRoot_any ak lk ck _).mono ?_
  rintro e w0 ⟨rfl, rfl⟩
  by_cases h64 : lk ≤ 64
  rotate_left
  · have d1 : decide ((lk : Int) ≤ 64) = false := by simp; omega
    rw [d1]
    go_wp2_with fail
    go_ret
    exact ⟨ChkRet.no (unhide HP1 h64), (unhide E).hb⟩
  have d1 : decide ((lk : Int) ≤ 64) = true := by simp; omega
  rw [d1]
  clear d1
  go_wp2_with fail
  refine (unhide q0 _ (unhide E).s).mono ?_
  rintro e w1 ⟨⟨b, rfl, hb⟩, hb1⟩
  have HB := hide hb
  have E1 := hide ((unhide E).keep hb1)
  have M1 := hide ((unhide HM).keepB hb1 (unhide HM).1)
  have X1 := hide ((unhide HX).keep hb1)
  have Y1 := hide ((unhide HY).keep hb1)
  clear hb hb1 E HM HX HY x0 x1 x2 zx y0 y1 y2 y3 y4 y5 y6 zy q0
  have x0 := (unhide E1).r.at (o := 0) (v := .string id) rfl
  have x1 := (unhide E1).r.at (o := 1) (v := .slice at' lt ct) rfl
  have x2 := (unhide E1).r.at (o := 2) (v := .slice ag G.length cg) rfl
  have zx := (unhide E1).r.lt
  have y0 := (unhide E1).hv.at (o := 0) (v := .int .i64 v.k) rfl
  have y1 := (unhide E1).hv.at (o := 1) (v := .int .i64 v.a.x) rfl
  have y2 := (unhide E1).hv.at (o := 2) (v := .int .i64 v.a.n) rfl
  have y3 := (unhide E1).hv.at (o := 3) (v := .string v.a.t) rfl
  have y4 := (unhide E1).hv.at (o := 4) (v := .string v.a.y) rfl
  have y5 := (unhide E1).hv.at (o := 5) (v := .slice a1 l1 c1) rfl
  have y6 := (unhide E1).hv.at (o := 6) (v := .slice a2 l2 c2) rfl
  have zy := (unhide E1).hv.lt
  cases b
  · go_wp2_with fail
    go_ret
    exact ⟨ChkRet.no (unhide HP2 (fun h => by have := (unhide HB).2 h; cases this)), (unhide E1).hb⟩
  have GC := hide ((unhide HB).1 (by trivial))
  clear HB
  go_wp2_with fail
  refine (unhide q1 _ (unhide E1).i (unhide E1).n).mono ?_
  rintro e w2 ⟨⟨b, rfl, hb⟩, hb2⟩
  have HB := hide hb
  have E2 := hide ((unhide E1).keep hb2)
  have M2 := hide ((unhide M1).keepB hb2 (unhide M1).1)
  have X2 := hide ((unhide X1).keep hb2)
  have Y2 := hide ((unhide Y1).keep hb2)
  clear hb hb2 E1 M1 X1 Y1 x0 x1 x2 zx y0 y1 y2 y3 y4 y5 y6 zy q1
  have x0 := (unhide E2).r.at (o := 0) (v := .string id) rfl
  have x1 := (unhide E2).r.at (o := 1) (v := .slice at' lt ct) rfl
  have x2 := (unhide E2).r.at (o := 2) (v := .slice ag G.length cg) rfl
  have zx := (unhide E2).r.lt
  have y0 := (unhide E2).hv.at (o := 0) (v := .int .i64 v.k) rfl
  have y1 := (unhide E2).hv.at (o := 1) (v := .int .i64 v.a.x) rfl
  have y2 := (unhide E2).hv.at (o := 2) (v := .int .i64 v.a.n) rfl
  have y3 := (unhide E2).hv.at (o := 3) (v := .string v.a.t) rfl
  have y4 := (unhide E2).hv.at (o := 4) (v := .string v.a.y) rfl
  have y5 := (unhide E2).hv.at (o := 5) (v := .slice a1 l1 c1) rfl
  have y6 := (unhide E2).hv.at (o := 6) (v := .slice a2 l2 c2) rfl
  have zy := (unhide E2).hv.lt
  cases b
  · go_wp2_with fail
    go_ret
    exact ⟨ChkRet.no (unhide HP3 (fun h => by have := (unhide HB).2 h; cases this)), (unhide E2).hb⟩
  have RC := hide ((unhide HB).1 (by trivial))
  clear HB
  have PP := hide (unhide HP h64 (unhide GC) (unhide RC))
  have q2 := hide (isGenuine_any id at' ag ak lt ct cg lk ck T G K w2 (unhide HI) (unhide E2).s (unhide HO) (unhide E2).g (unhide E2).k h64 (unhide GC) (unhide M2) (unhide X2) (unhide Y2))
  have D1 := hide (fun (h : ¬ tgs (mac K id.data.toList) T = G) => ChkRet.ne (unhide PP) h)
  have D2 := hide (fun (h : tgs (mac K id.data.toList) T = G) => ChkRet.eq (unhide PP) h)
  generalize hTG : tgs (mac K id.data.toList) T = TG at q2 D1 D2
  clear hTG M2 X2 Y2
  go_wp2_with fail
  refine (unhide q2).mono ?_
  rintro e w3 ⟨rfl, hb3⟩
  have E3 := hide ((unhide E2).keep hb3)
  clear hb3 E2 x0 x1 x2 zx y0 y1 y2 y3 y4 y5 y6 zy q2
  have x0 := (unhide E3).r.at (o := 0) (v := .string id) rfl
  have x1 := (unhide E3).r.at (o := 1) (v := .slice at' lt ct) rfl
  have x2 := (unhide E3).r.at (o := 2) (v := .slice ag G.length cg) rfl
  have zx := (unhide E3).r.lt
  have y0 := (unhide E3).hv.at (o := 0) (v := .int .i64 v.k) rfl
  have y1 := (unhide E3).hv.at (o := 1) (v := .int .i64 v.a.x) rfl
  have y2 := (unhide E3).hv.at (o := 2) (v := .int .i64 v.a.n) rfl
  have y3 := (unhide E3).hv.at (o := 3) (v := .string v.a.t) rfl
  have y4 := (unhide E3).hv.at (o := 4) (v := .string v.a.y) rfl
  have y5 := (unhide E3).hv.at (o := 5) (v := .slice a1 l1 c1) rfl
  have y6 := (unhide E3).hv.at (o := 6) (v := .slice a2 l2 c2) rfl
  have zy := (unhide E3).hv.lt
  by_cases hE : TG = G
  rotate_left
  · have d1 : decide (TG = G) = false := by simp [hE]
    rw [d1]
    go_wp2_with fail
    go_ret
    exact ⟨unhide D1 hE, (unhide E3).hb⟩
  have d1 : decide (TG = G) = true := by simp [hE]
  rw [d1]
  have D3 := hide (unhide D2 hE)
  have q3 := hide (holds_any id at' ag lt ct G.length cg T v (unhide HV) a1 a2 l1 c1 l2 c2 w3 (by have h1 := (unhide GC).2.1.1; have h2 := unhide HLL; omega) (unhide E3).s (unhide HO) (unhide GC).2.1.2 (unhide RC) (unhide HL1) (unhide E3).i (unhide E3).n)
  clear d1 hE D1 D2
  generalize holdI v T = HI0 at q3 D3
  go_wp2_with fail
  refine (unhide q3).mono ?_
  rintro e w4 ⟨rfl, hb4⟩
  have B4 := hide (bTr (unhide E3).hb hb4)
  clear hb4 E3 x0 x1 x2 zx y0 y1 y2 y3 y4 y5 y6 zy q3
  go_wp2_with fail
  go_ret
  exact ⟨unhide D3, unhide B4⟩
end Go.Proofs.YtdflnjjomljgmaaGreatDoor.D
/- CheckCap by the specification. -/
namespace Go.Proofs.YtdflnjjomljgmaaGreatDoor.D
open Go.RowKit
set_option maxRecDepth 20000

theorem les_any (a b : Int) (w : World) (ha : a = 0 ∨ a = 1 ∨ a = 2) (hb : b = 0 ∨ b = 1 ∨ b = 2) :
    Calls Tryz.prog 24 #[.int .i64 a, .int .i64 b] w fun e w' => e = .returned (.int .i64 (lesI a b)) ∧ w = w' := by
  rcases ha with rfl | rfl | rfl <;> rcases hb with rfl | rfl | rfl
  all_goals
    go_enter Tryz.func24, Tryz.ntmps24
    go_wp2
    go_ret
    exact ⟨rfl, rfl⟩
set_option maxHeartbeats 4000000 in
theorem sCheckCap_any (id : ByteArray) (at' ag ak : Option Addr) (lt ct cg lk ck : Nat) (T : List V.CavTermT) (G K : List UInt8) (v : V.ValT) (a1 a2 : Option Addr) (l1 c1 l2 c2 : Nat) (w : World) (hid : id.size ≤ maxLen) (hl : lt ≤ 1048576) (hs : V.SlCavTerm w at' lt T) (ok : ∀ q ∈ T, V.CavTermT.Ok q) (hg : SlB w w.heap.size ag G.length G) (hk : SlB w w.heap.size ak lk K) (hlk : lk ≤ 1048576) (hv : v.Ok) (hl1 : l1 ≤ maxLen) (hs1 : V.SlA w a1 l1 v.items) (hs2 : V.SlS w a2 l2 v.names) :
    Calls Tryz.prog 6 #[.slice ak lk ck, V.capV id at' ag lt ct G.length cg, V.vAgg v a1 l1 c1 a2 l2 c2] w fun e w' => ChkRet lk K id T G v e ∧ Below w.heap.size w w' := by
  obtain ⟨W0, hW0⟩ : ∃ W, W = w.alloc (.cells (V.capC id at' ag lt ct G.length cg) 38) := ⟨_, rfl⟩
  obtain ⟨W, hW⟩ : ∃ W, W = W0.alloc (.cells (vC v a1 l1 c1 a2 l2 c2) 43) := ⟨_, rfl⟩
  have z0 : W0.heap.size = w.heap.size + 1 := by rw [hW0]; simp
  have B0 : Below w.heap.size w W0 := by rw [hW0]; exact bAl (Below.refl _ _) _
  have b1 : Below W0.heap.size W0 W := by rw [hW]; exact bAl (Below.refl _ _) _
  have B := hide (bTr B0 b1)
  have R := hide ((show RowIs W0 w.heap.size (V.capC id at' ag lt ct G.length cg) 38 by rw [hW0]; exact RowIs.new _ _ _).keep b1)
  have RV := hide (show RowIs W (w.heap.size + 1) (vC v a1 l1 c1 a2 l2 c2) 43 by rw [hW, ← z0]; exact RowIs.new _ _ _)
  have E := hide (show Ev w W (w.heap.size) id at' ag ak lt ct cg lk T G K v a1 a2 l1 c1 l2 c2 from ⟨unhide B, unhide R, unhide RV, hs.keep (unhide B), (hg.keep (unhide B)).mono (unhide B).size, (hk.keep (unhide B)).mono (unhide B).size, hs1.keep (unhide B), hs2.keep (unhide B)⟩)
  have q0 := hide (fun w (hs : V.SlCavTerm w at' lt T) => V.l17Good_any id at' ag lt ct G.length cg T w hid hl hs ok)
  have q1 := hide (fun w hs1 hs2 => V.l6Record_any v hv a1 a2 l1 c1 l2 c2 w hs1 hs2)
  have HO := hide ok
  have HI := hide hid
  have HV := hide hv
  have HL1 := hide hl1
  have HLL := hide hs.1
  have HP := hide (fun (h1 : lk ≤ 64) (h2 : V.GoodC id T G.length) (h3 : V.Rec v) => show ChkP lk id T G.length v from ⟨h1, h2, h3⟩)
  have HP1 := hide (fun (h : ¬ lk ≤ 64) (k : ChkP lk id T G.length v) => h k.1)
  have HP2 := hide (fun (h : ¬ V.GoodC id T G.length) (k : ChkP lk id T G.length v) => h k.2.1)
  have HP3 := hide (fun (h : ¬ V.Rec v) (k : ChkP lk id T G.length v) => h k.2.2)
  rw [hW0] at hW
  have HW := hide hW.symm
  clear hW hW0 hs hs1 hs2 hg hk ok hid hv hl1 b1 B0 z0 W0 R RV hl
  have x0 := (unhide E).r.at (o := 0) (v := .string id) rfl
  have x1 := (unhide E).r.at (o := 1) (v := .slice at' lt ct) rfl
  have x2 := (unhide E).r.at (o := 2) (v := .slice ag G.length cg) rfl
  have zx := (unhide E).r.lt
  have y0 := (unhide E).hv.at (o := 0) (v := .int .i64 v.k) rfl
  have y1 := (unhide E).hv.at (o := 1) (v := .int .i64 v.a.x) rfl
  have y2 := (unhide E).hv.at (o := 2) (v := .int .i64 v.a.n) rfl
  have y3 := (unhide E).hv.at (o := 3) (v := .string v.a.t) rfl
  have y4 := (unhide E).hv.at (o := 4) (v := .string v.a.y) rfl
  have y5 := (unhide E).hv.at (o := 5) (v := .slice a1 l1 c1) rfl
  have y6 := (unhide E).hv.at (o := 6) (v := .slice a2 l2 c2) rfl
  have zy := (unhide E).hv.lt
  by_cases h64 : lk ≤ 64
  rotate_left
  · have n64 : (64 : Int) < (lk : Int) := by omega
    go_enter Tryz.func6, Tryz.ntmps6
    go_upto_region 1 with fail
    rw [unhide HW]
    clear HW
    go_wp2_with fail
    go_ret
    exact ⟨ChkRet.no (unhide HP1 h64), (unhide E).hb⟩
  have n64 : ¬ (64 : Int) < (lk : Int) := by omega
  go_enter Tryz.func6, Tryz.ntmps6
  go_upto_region 1 with fail
  rw [unhide HW]
  clear HW
  go_wp2_with fail
  refine (unhide q0 _ (unhide E).s).mono ?_
  rintro e w1 ⟨⟨b, rfl, hb⟩, hb1⟩
  have HB := hide hb
  have E1 := hide ((unhide E).keep hb1)
  clear hb hb1 E x0 x1 x2 zx y0 y1 y2 y3 y4 y5 y6 zy q0
  have x0 := (unhide E1).r.at (o := 0) (v := .string id) rfl
  have x1 := (unhide E1).r.at (o := 1) (v := .slice at' lt ct) rfl
  have x2 := (unhide E1).r.at (o := 2) (v := .slice ag G.length cg) rfl
  have zx := (unhide E1).r.lt
  have y0 := (unhide E1).hv.at (o := 0) (v := .int .i64 v.k) rfl
  have y1 := (unhide E1).hv.at (o := 1) (v := .int .i64 v.a.x) rfl
  have y2 := (unhide E1).hv.at (o := 2) (v := .int .i64 v.a.n) rfl
  have y3 := (unhide E1).hv.at (o := 3) (v := .string v.a.t) rfl
  have y4 := (unhide E1).hv.at (o := 4) (v := .string v.a.y) rfl
  have y5 := (unhide E1).hv.at (o := 5) (v := .slice a1 l1 c1) rfl
  have y6 := (unhide E1).hv.at (o := 6) (v := .slice a2 l2 c2) rfl
  have zy := (unhide E1).hv.lt
  cases b
  · go_wp2_with fail
    go_ret
    exact ⟨ChkRet.no (unhide HP2 (fun h => by have := (unhide HB).2 h; cases this)), (unhide E1).hb⟩
  have GC := hide ((unhide HB).1 (by trivial))
  clear HB
  go_wp2_with fail
  refine (unhide q1 _ (unhide E1).i (unhide E1).n).mono ?_
  rintro e w2 ⟨⟨b, rfl, hb⟩, hb2⟩
  have HB := hide hb
  have E2 := hide ((unhide E1).keep hb2)
  clear hb hb2 E1 x0 x1 x2 zx y0 y1 y2 y3 y4 y5 y6 zy q1
  have x0 := (unhide E2).r.at (o := 0) (v := .string id) rfl
  have x1 := (unhide E2).r.at (o := 1) (v := .slice at' lt ct) rfl
  have x2 := (unhide E2).r.at (o := 2) (v := .slice ag G.length cg) rfl
  have zx := (unhide E2).r.lt
  cases b
  · go_wp2_with fail
    go_ret
    exact ⟨ChkRet.no (unhide HP3 (fun h => by have := (unhide HB).2 h; cases this)), (unhide E2).hb⟩
  have RC := hide ((unhide HB).1 (by trivial))
  clear HB
  have PP := hide (unhide HP h64 (unhide GC) (unhide RC))
  have D1 := hide (fun (h : ¬ tgs (mac K id.data.toList) T = G) => ChkRet.ne (unhide PP) h)
  have D2 := hide (fun (h : tgs (mac K id.data.toList) T = G) => ChkRet.eq (unhide PP) h)
  have zi := idB_le (unhide GC).1
  have L20 : lt ≤ 20 := by have h1 := (unhide GC).2.1.1; have h2 := unhide HLL; omega
  have eI := hide (show capI lk id = id from if_pos ⟨h64, (unhide GC).1⟩)
  have eG := hide (show capG lk K id = mac K id.data.toList from if_pos ⟨h64, (unhide GC).1⟩)
  have q2 := hide (fun w hs => sMakeCap_any ak lk ck K id w (by omega) (by omega) hs)
  have zK := hide (mac_len K id.data.toList)
  generalize mac K id.data.toList = K0 at eG zK D1 D2
  go_wp2_with fail
  refine (unhide q2 _ (unhide E2).k).mono ?_
  rintro e w1 ⟨⟨u, D, hD, rfl, ho⟩, hb1⟩
  have hD' := (unhide hD).trans (unhide eG)
  clear hD
  subst hD'
  rw [unhide eI]
  have E1 := hide ((unhide E2).keep hb1)
  obtain ⟨av, cv, rfl⟩ := own_form ho
  have N0 := hide (fun o => MkN.start (T := T) ho o)
  have O0 := hide (fun (xs : Array Value) => RowIs.new w1 xs 38)
  clear hb1 E2 q2 eI eG ho x0 x1 x2 zx
  have x1 := (unhide E1).r.at (o := 1) (v := .slice at' lt ct) rfl
  have zx := (unhide E1).r.lt
  go_wp2_with fail
  clear x1 zx
  go_loopw [34] (fun i w' => ∃ (k : Nat) (v1 v2 : Value), k ≤ lt ∧ i = .int .i64 k ∧ Hid (RowIs w' w1.heap.size (capB id v1 v2) 38) ∧ Hid (MkN w1.heap.size T D k v1 v2 w') ∧ Hid (Below w1.heap.size w1 w')) (fun i _ => lt - (Go.RowKit.intOf i).toNat)
  case atStart => exact ⟨0, _, _, Nat.zero_le _, rfl, hide (unhide O0 _), hide (unhide N0 _), hide (bAl (Below.refl _ _) _)⟩
  case round =>
    obtain ⟨k, v1, v2, hk, rfl, hr, hn, hb⟩ := hrel
    obtain ⟨p1, q1, rfl⟩ := own_form (unhide hn).m.o1
    obtain ⟨p2, q2, rfl⟩ := own_form (unhide hn).m.o2
    generalize (T.take k).length = n1 at *
    generalize (tgs D (T.take k)).length = n2 at *
    by_cases hlt : k < lt
    · have hk' : k < T.length := by have := unhide HLL; omega
      obtain ⟨bb_, off, e0, hrow⟩ := ((unhide E1).s.keep (unhide hb)).at hlt
      subst e0
      have c0 := hrow.c0 k hk'
      have c1 := hrow.c1 k hk'
      have c2 := hrow.c2 k hk'
      have c3 := hrow.c3 k hk'
      have c4 := hrow.c4 k hk'
      have c5 := hrow.c5 k hk'
      have c6 := hrow.c6 k hk'
      have zk := hrow.z
      obtain ⟨W2, hW2⟩ : ∃ W2, W2 = wr.alloc (.cells #[.string T[k].f0, .int .i64 T[k].f1, .string T[k].f2, .int .i64 T[k].f3, .int .i64 T[k].f4, .string T[k].f5, .string T[k].f6] 58) := ⟨_, rfl⟩
      have bW := hide (show Below wr.heap.size wr W2 by rw [hW2]; exact bAl (Below.refl _ _) _)
      have R2 := show RowIs W2 wr.heap.size #[.string T[k].f0, .int .i64 T[k].f1, .string T[k].f2, .int .i64 T[k].f3, .int .i64 T[k].f4, .string T[k].f5, .string T[k].f6] 58 by rw [hW2]; exact RowIs.new _ _ _
      have b2 := hide (bTr (unhide hb) (unhide bW))
      have q := hide (sMake_step ((unhide hn).keep (unhide bW)).m (unhide GC) (unhide zK) (unhide HI) (unhide HO) hk' p1 p2 _ q1 _ q2 rfl rfl)
      have hr2 := hide ((unhide hr).keep (unhide bW))
      clear hrow hr hn
      generalize T[k] = A at *
      have HW2 := hide hW2.symm
      have x0 := R2.at (o := 0) (v := .string A.f0) rfl
      have x1 := R2.at (o := 1) (v := .int .i64 A.f1) rfl
      have x2 := R2.at (o := 2) (v := .string A.f2) rfl
      have x3 := R2.at (o := 3) (v := .int .i64 A.f3) rfl
      have x4 := R2.at (o := 4) (v := .int .i64 A.f4) rfl
      have x5 := R2.at (o := 5) (v := .string A.f5) rfl
      have x6 := R2.at (o := 6) (v := .string A.f6) rfl
      have zx := R2.lt
      have g0 := (unhide hr2).at (o := 0) (v := .string id) rfl
      have g1 := (unhide hr2).at (o := 1) rfl
      have g2 := (unhide hr2).at (o := 2) rfl
      have zg := (unhide hr2).lt
      clear hW2 R2
      go_upto_region 7 with fail
      rw [unhide HW2]
      clear HW2 c0 c1 c2 c3 c4 c5 c6 zk
      go_wp2_with fail
      refine (unhide q).mono ?_
      rintro e w3 ⟨⟨u1, u2, m1, d1, m2, d2, rfl, hm3⟩, hb3⟩
      have B3 := hide (bTr (unhide b2) hb3)
      have R3 := hide ((unhide hr2).keep hb3)
      have M3 := hide hm3
      have zz := hide zg
      clear hb3 bW hb q x0 x1 x2 x3 x4 x5 x6 zx hr2 g0 g1 g2 zg hm3
      have g0 := (unhide R3).at (o := 0) (v := .string id) rfl
      have g1 := (unhide R3).at (o := 1) rfl
      have g2 := (unhide R3).at (o := 2) rfl
      have f0 := (unhide R3).froz 0
      have f1 := (unhide R3).froz 1
      have f2 := (unhide R3).froz 2
      have zg := (unhide R3).lt
      go_wp2_with fail
      exact ⟨⟨k + 1, .slice u1 m1 d1, .slice u2 m2 d2, by omega, by go_num, hide ((((unhide R3).set 0 _).set 1 _).set 2 _), hide ((unhide M3).box (unhide zz) _ _ _), hide ((((unhide B3).setCell (Nat.le_refl _) _).setCell (Nat.le_refl _) _).setCell (Nat.le_refl _) _)⟩, by simp [Go.RowKit.intOf]; omega⟩
    · have ek : k = T.length := by have := unhide HLL; omega
      obtain ⟨o2, d2, e2, s2⟩ := (unhide hn).tag ek
      simp only [Value.slice.injEq] at e2
      obtain ⟨rfl, e3, rfl⟩ := e2
      have E2 := hide ((unhide E1).keep (unhide hb))
      have x1 := (unhide E2).r.at (o := 1) (v := .slice at' lt ct) rfl
      have x2 := (unhide E2).r.at (o := 2) (v := .slice ag G.length cg) rfl
      have zx := (unhide E2).r.lt
      have g2 := (unhide hr).at (o := 2) rfl
      have zg := (unhide hr).lt
      rw [e3] at g2
      have v1 := conv_slC s2 q2
      have v2 := conv_slC (unhide E2).g cg
      clear ek e3 s2 hr hn E1
      generalize tgs D T = TG at *
      by_cases hE : TG = G
      rotate_left
      · have hne : ((⟨TG.toArray⟩ : ByteArray).toList == (⟨G.toArray⟩ : ByteArray).toList) = false := by simp [ByteArray.toList_eq, hE]
        have DD := hide (unhide D1 hE)
        clear hE D1 D2
        generalize (⟨TG.toArray⟩ : ByteArray) = Z1 at *
        generalize (⟨G.toArray⟩ : ByteArray) = Z2 at *
        go_wp2_with fail
        go_ret
        exact ⟨unhide DD, (unhide E2).hb⟩
      have DD := hide (unhide D2 hE)
      have hne : ((⟨TG.toArray⟩ : ByteArray).toList == (⟨G.toArray⟩ : ByteArray).toList) = true := by rw [hE]; simp
      clear hE D1 D2
      generalize (⟨TG.toArray⟩ : ByteArray) = Z1 at *
      generalize (⟨G.toArray⟩ : ByteArray) = Z2 at *
      go_wp2_with fail
      clear x1 x2 zx g2 zg v1 v2 hne
      have HTB := hide (unhide GC).2.1.2
      have HR2 := hide (unhide RC).parts
      generalize hRES : holdI v T = RES at DD
      have HRES := hide hRES
      clear hRES
      go_loopw [10, 52] (fun o i w' => ∃ (k : Nat), k ≤ lt ∧ i = .int .i64 k ∧ o = .int .i64 (holdI v (T.take k)) ∧ Hid (Below wr.heap.size wr w')) (fun _ i _ => lt - (Go.RowKit.intOf i).toNat)
      case atStart => exact ⟨0, Nat.zero_le _, rfl, rfl, hide (Below.refl _ _)⟩
      case round =>
        obtain ⟨k, hk, rfl, rfl, hb⟩ := hrel
        have E3 := hide ((unhide E2).keep (unhide hb))
        by_cases hlt : k < lt
        · have hk' : k < T.length := by have := unhide HLL; omega
          obtain ⟨bb_, off, e0, hrow⟩ := (unhide E3).s.at hlt
          subst e0
          have d0 := hrow.c0 k hk'
          have d1 := hrow.c1 k hk'
          have d2 := hrow.c2 k hk'
          have d3 := hrow.c3 k hk'
          have d4 := hrow.c4 k hk'
          have d5 := hrow.c5 k hk'
          have d6 := hrow.c6 k hk'
          have zk := hrow.z
          have HS := hide (show holdI v (T.take (k + 1)) = lesI (holdI v (T.take k)) (trR v T[k]) by rw [List.take_succ_eq_append_getElem hk', holdI_snoc])
          have OA := hide (unhide HO _ (List.getElem_mem hk'))
          have HC := hide (trR_cases v T[k])
          have HCC := hide (holdI_cases v (T.take k))
          have HTR := hide (fun A => show trR v A = V.termR [⟨A.f0, A.f3⟩] (V.gOf v) A from rfl)
          clear hrow
          generalize T[k] = A at *
          generalize holdI v (T.take k) = H0 at *
          obtain ⟨W2, hW2⟩ : ∃ W2, W2 = wr.alloc (.cells #[.string A.f0, .int .i64 A.f1, .string A.f2, .int .i64 A.f3, .int .i64 A.f4, .string A.f5, .string A.f6] 58) := ⟨_, rfl⟩
          have bW := hide (show Below wr.heap.size wr W2 by rw [hW2]; exact bAl (Below.refl _ _) _)
          have R2 := show RowIs W2 wr.heap.size #[.string A.f0, .int .i64 A.f1, .string A.f2, .int .i64 A.f3, .int .i64 A.f4, .string A.f5, .string A.f6] 58 by rw [hW2]; exact RowIs.new _ _ _
          have HW2 := hide hW2.symm
          have B2 := hide (bTr (unhide hb) (unhide bW))
          have E4 := hide ((unhide E3).keep (unhide bW))
          have x0 := R2.at (o := 0) (v := .string A.f0) rfl
          have x1 := R2.at (o := 1) (v := .int .i64 A.f1) rfl
          have x2 := R2.at (o := 2) (v := .string A.f2) rfl
          have x3 := R2.at (o := 3) (v := .int .i64 A.f3) rfl
          have x4 := R2.at (o := 4) (v := .int .i64 A.f4) rfl
          have x5 := R2.at (o := 5) (v := .string A.f5) rfl
          have x6 := R2.at (o := 6) (v := .string A.f6) rfl
          have zx := R2.lt
          have q := hide (fun W' c (hb' : Below W2.heap.size W2 W') hp => V.l6Term_any A v (some ⟨W2.heap.size, 0, none⟩) a1 a2 1 c l1 c1 l2 c2 [⟨A.f0, A.f3⟩] W' (unhide OA) (unhide HV) (by omega) (by have h3 := (unhide HR2).1; have h4 := (unhide HR2).2.2.1; have h5 := (unhide E3).n.1; omega) (unhide HR2).2.2.1 hp ((unhide E4).keep hb').i ((unhide E4).keep hb').n)
          rw [show trR v A = V.termR [⟨A.f0, A.f3⟩] (V.gOf v) A from rfl] at HS HC
          generalize V.termR [⟨A.f0, A.f3⟩] (V.gOf v) A = r at q HS HC
          have y0 := (unhide E4).hv.at (o := 0) (v := .int .i64 v.k) rfl
          have y1 := (unhide E4).hv.at (o := 1) (v := .int .i64 v.a.x) rfl
          have y2 := (unhide E4).hv.at (o := 2) (v := .int .i64 v.a.n) rfl
          have y3 := (unhide E4).hv.at (o := 3) (v := .string v.a.t) rfl
          have y4 := (unhide E4).hv.at (o := 4) (v := .string v.a.y) rfl
          have y5 := (unhide E4).hv.at (o := 5) (v := .slice a1 l1 c1) rfl
          have y6 := (unhide E4).hv.at (o := 6) (v := .slice a2 l2 c2) rfl
          have zy := (unhide E4).hv.lt
          clear hW2 R2 HTR
          go_upto_region 15 with fail
          rw [unhide HW2]
          clear HW2 d0 d1 d2 d3 d4 d5 d6 zk
          go_wp2_with fail
          have bP := hide (bAl (Below.refl W2.heap.size W2) (.cells #[.string A.f0, .int .i64 A.f3] 62))
          refine (unhide q _ 1 (unhide bP) (slPar1 (RowIs.new W2 _ _))).mono ?_
          rintro e w3 ⟨rfl, hb3⟩
          have B3 := hide (bTr (unhide B2) (bTr (unhide bP) hb3))
          clear hb3 q x0 x1 x2 x3 x4 x5 x6 zx y0 y1 y2 y3 y4 y5 y6 zy bP bW E4
          go_wp2_with fail
          refine (les_any H0 r _ (unhide HCC) (unhide HC)).mono ?_
          rintro e w4 ⟨rfl, rfl⟩
          go_wp2_with fail
          exact ⟨⟨k + 1, by omega, by go_num, by rw [unhide HS], B3⟩, by simp [Go.RowKit.intOf]; omega⟩
        · have ek : T.take k = T := List.take_of_length_le (by have := unhide HLL; omega)
          rw [ek]
          rw [unhide HRES]
          go_wp2_with fail
          go_ret
          exact ⟨unhide DD, (unhide E3).hb⟩
end Go.Proofs.YtdflnjjomljgmaaGreatDoor.D
