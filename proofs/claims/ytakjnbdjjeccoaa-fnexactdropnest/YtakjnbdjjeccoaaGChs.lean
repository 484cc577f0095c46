/- spec.l5Change, spec.AddNest, DropNest. -/
import Derived.Test.YtakjnbdjjeccoaaGWiw
namespace Go.Proofs.Ytakjnbdjjeccoaa
open Go.RowKit

/-- The set that is told. -/
def ChS (l : List NestT) (n : Bs × Bs) : Bool → Bs × Bs → Prop
  | true => AddS l n
  | false => DropS l n
theorem WT.chs {l : List NestT} {n : Bs × Bs} {add : Bool} {r : List NestT} (h : WT l n add r) (x : NestT) : x ∈ r ↔ ChS l n add (x.f0, x.f1) := by
  rw [h.mem x]
  have e : SetL l (x.f0, x.f1) ↔ x ∈ l := by
    constructor
    · rintro ⟨y, hy, h1⟩; rw [← nest_inj h1]; exact hy
    · intro h; exact ⟨x, h, rfl⟩
  cases add
  · show _ ↔ SetL l _ ∧ _
    rw [e]; simp
  · show _ ↔ SetL l _ ∨ _
    rw [e]
    by_cases q : (x.f0, x.f1) = n <;> simp [q]
theorem WT.good {l : List NestT} (hG : GoodL l) {g m : Bs} (hn : gNest g m = true) {add : Bool} {r : List NestT} (h : WT l (g, m) add r) (h2 : r.length ≤ 200) : GoodL r := by
  refine ⟨h2, fun i hi _ => ?_, fun i hi h0 _ => ?_⟩
  · rcases (h.mem r[i]).1 (List.getElem_mem hi) with ⟨h1, _⟩ | ⟨_, h1⟩
    · obtain ⟨j, hj, e⟩ := List.getElem_of_mem h1
      have := hG.2.1 j hj hj
      rw [e] at this; exact this
    · unfold gNe
      simp only [Prod.mk.injEq] at h1
      rw [h1.1, h1.2]; exact hn
  · exact List.pairwise_iff_getElem.1 h.ris (i - 1) i (by omega) hi (by omega)
theorem WT.tn {l : List NestT} {n : Bs × Bs} {add : Bool} {r : List NestT} (h : WT l n add r) : (r.length ≤ 200 → TN (ChS l n add) r) ∧ (200 < r.length → TN (ChS l n add) []) := by
  refine ⟨fun h2 => .inr ⟨h2, h.ris, h.chs⟩, fun h2 => .inl ⟨rfl, r.map fun x => (x.f0, x.f1), ?_, fun p => ?_, by simpa using h2⟩⟩
  · unfold List.Nodup
    rw [List.pairwise_map]
    exact h.ris.imp (fun {a b} q e => by rw [e] at q; exact cfN_irr _ q)
  · rw [List.mem_map]
    constructor
    · rintro ⟨x, hx, rfl⟩; exact (h.chs x).1 hx
    · intro hp; exact ⟨⟨p.1, p.2⟩, (h.chs ⟨p.1, p.2⟩).2 hp, rfl⟩
theorem PRea.nil : PRea [] [] := ⟨List.Pairwise.nil, fun x => ⟨(fun h => by simp at h), fun ⟨n, _, hn⟩ => by
  obtain ⟨q, hq, _⟩ := (Inn.pair hn).2.1
  simp at hq⟩⟩

set_option maxRecDepth 100000 in
set_option maxHeartbeats 1500000 in
theorem l5Change_any (a : Option Addr) (len cap : Nat) (l : List NestT) (g m : Bs) (add : Bool) (w : World) (hl : len ≤ maxLen) (hs : SlNest w a len l) (hok : ∀ q ∈ l, NestT.Ok q) (hg : g.size ≤ maxLen) (hm : m.size ≤ maxLen) :
    Calls Try.prog 58 #[.slice a len cap, .agg #[.string g, .string m], .bool add] w fun e w' => (∃ v u r1 r2, e = .returned (.tuple #[v, u]) ∧ PChg l (g, m) (ChS l (g, m) add) r1 r2 ∧ w'.ownsRow w.heap.size 42 2 v r1.length (NestsV r1) ∧ w'.ownsRow w.heap.size 70 3 u r2.length (ReachsV r2) ∧ DJ v u) ∧ Below w.heap.size w w' := by
  obtain ⟨W, hW⟩ : ∃ W, W = w.alloc (.cells #[.string g, .string m] 42) := ⟨_, rfl⟩
  have R0 := hide (show RowIs W w.heap.size #[.string g, .string m] 42 by rw [hW]; exact RowIs.new _ _ _)
  have B0 := hide (show Below w.heap.size w W by rw [hW]; exact bAl (Below.refl _ _) _)
  have HW := hide hW.symm
  have HS := hide hs
  have HO := hide hok
  have qg := hide (sGoodNests_any a len cap l W hl (hs.keep (unhide B0)) hok)
  have q1 := hide (fun w => l5Group_any g hg w)
  have q2 := hide (fun w => sGoodName_any m hm w)
  clear hs hok hW
  unfold maxLen at hl
  go_enter Try.func58, Try.ntmps58
  go_wp2_with fail
  rw [unhide HW]
  refine (unhide qg).mono ?_
  rintro e w1 ⟨⟨gd, rfl, hgd⟩, hb1⟩
  have HG := hide hgd
  have B1 := hide (bTr (unhide B0) hb1)
  have R1 := hide ((unhide R0).keep hb1)
  clear hgd hb1 qg R0 B0 HW
  cases gd
  · have FIN := hide (show PChg l (g, m) (ChS l (g, m) add) [] [] from .inr ⟨(fun h => by have := (unhide HG).2 h.1; cases this), rfl, rfl⟩)
    clear HG q1 q2
    go_wp2_with fail
    exact bodyPost_ret (v := .tuple #[.slice none 0 0, .slice none 0 0]) (by simp [results, Try.results58, go_sem]) rfl ⟨⟨_, _, [], [], rfl, unhide FIN, World.ownsRow_nil _ _ _ _, World.ownsRow_nil _ _ _ _, dj_nil _⟩, unhide B1⟩
  · have GD := hide ((unhide HG).1 rfl)
    have y0 := (unhide R1).at (o := 0) (v := .string g) rfl
    have y1 := (unhide R1).at (o := 1) (v := .string m) rfl
    have zy := (unhide R1).lt
    clear HG
    cases hx : gNest g m
    · have FIN := hide (show PChg l (g, m) (ChS l (g, m) add) [] [] from .inr ⟨(fun h => by have := h.2; simp only at this; rw [hx] at this; cases this), rfl, rfl⟩)
      unfold gNest at hx
      cases h1 : isGrp g
      · rw [h1] at q1
        clear hx h1 q2
        go_wp2_with (go_at_call 42; refine (unhide q1 _).mono ?_; rintro e w' ⟨rfl, rfl⟩)
        exact bodyPost_ret (v := .tuple #[.slice none 0 0, .slice none 0 0]) (by simp [results, Try.results58, go_sem]) rfl ⟨⟨_, _, [], [], rfl, unhide FIN, World.ownsRow_nil _ _ _ _, World.ownsRow_nil _ _ _ _, dj_nil _⟩, unhide B1⟩
      · have h2 : goodName m = false := by rw [h1] at hx; simpa using hx
        rw [h1] at q1
        rw [h2] at q2
        clear hx h1 h2
        go_wp2_with (first
          | (go_at_call 42; refine (unhide q1 _).mono ?_; rintro e w' ⟨rfl, rfl⟩)
          | (go_at_call 43; refine (unhide q2 _).mono ?_; rintro e w' ⟨rfl, rfl⟩))
        exact bodyPost_ret (v := .tuple #[.slice none 0 0, .slice none 0 0]) (by simp [results, Try.results58, go_sem]) rfl ⟨⟨_, _, [], [], rfl, unhide FIN, World.ownsRow_nil _ _ _ _, World.ownsRow_nil _ _ _ _, dj_nil _⟩, unhide B1⟩
    · have GN := hide hx
      have h12 : isGrp g = true ∧ goodName m = true := by unfold gNest at hx; simpa using hx
      rw [h12.1] at q1
      rw [h12.2] at q2
      have qw := hide (l5With_any a len cap l g m add w1 (unhide GD) ((unhide HS).keep (unhide B1)) (unhide HO))
      clear hx h12
      go_wp2_with (first
        | (go_at_call 42; refine (unhide q1 _).mono ?_; rintro e w' ⟨rfl, rfl⟩)
        | (go_at_call 43; refine (unhide q2 _).mono ?_; rintro e w' ⟨rfl, rfl⟩))
      refine (unhide qw).mono ?_
      rintro e w3 ⟨⟨v, r, rfl, hT, ho⟩, hb3⟩
      obtain ⟨av, cv, ev, hsv⟩ := own_Nest ho
      subst ev
      have HT := hide hT
      have hrl : r.length ≤ 201 := by have := hT.len; have := (unhide GD).1; omega
      have hokr : ∀ q ∈ r, NestT.Ok q := fun q hq => by
        rcases (hT.mem q).1 hq with ⟨h1, _⟩ | ⟨_, h1⟩
        · exact unhide HO q h1
        · simp only [Prod.mk.injEq] at h1
          exact ⟨by rw [h1.1]; exact hg, by rw [h1.2]; exact hm⟩
      have HOr := hide hokr
      have HSr := hide hsv
      have qg := hide (sGoodNests_any av r.length cv r w3 (by unfold maxLen; omega) hsv hokr)
      have O3 := hide (own_base ho (unhide B1).size)
      have B3 := hide (bTr (unhide B1) hb3)
      clear hT ho hb3 qw hsv hokr q1 q2
      go_wp2_with fail
      refine (unhide qg).mono ?_
      rintro e w4 ⟨⟨gd, rfl, hgd⟩, hb4⟩
      have HG := hide hgd
      have B4 := hide (bTr (unhide B3) hb4)
      have O4 := hide (own_keep (unhide O3) hb4)
      have HS4 := hide ((unhide HSr).keep hb4)
      clear hgd hb4 qg O3 B3 HSr
      cases gd
      · have h201 : 200 < r.length := by
          rcases Nat.lt_or_ge 200 r.length with h | h
          · exact h
          · have := (unhide HG).2 ((unhide HT).good (unhide GD) (unhide GN) h); cases this
        have FIN := hide (show PChg l (g, m) (ChS l (g, m) add) [] [] from .inl ⟨⟨unhide GD, unhide GN⟩, (unhide HT).tn.2 h201, PRea.nil⟩)
        clear HG h201
        go_wp2_with fail
        exact bodyPost_ret (v := .tuple #[.slice none 0 0, .slice none 0 0]) (by simp [results, Try.results58, go_sem]) rfl ⟨⟨_, _, [], [], rfl, unhide FIN, World.ownsRow_nil _ _ _ _, World.ownsRow_nil _ _ _ _, dj_nil _⟩, unhide B4⟩
      · have GR := hide ((unhide HG).1 rfl)
        have qr := hide (l5Reach_any av r.length cv r w4 (unhide GR) (unhide HS4) (unhide HOr))
        clear HG
        go_wp2_with fail
        refine (unhide qr).mono ?_
        rintro e w6 ⟨⟨u, r2, rfl, hP, ho6⟩, hb6⟩
        have FIN := hide (show PChg l (g, m) (ChS l (g, m) add) r r2 ∧ w6.ownsRow w.heap.size 42 2 (.slice av r.length cv) r.length (NestsV r) ∧ w6.ownsRow w.heap.size 70 3 u r2.length (ReachsV r2) ∧ DJ (.slice av r.length cv) u from ⟨.inl ⟨⟨unhide GD, unhide GN⟩, (unhide HT).tn.1 (unhide GR).1, hP⟩, own_keep (unhide O4) hb6, own_base ho6 (unhide B4).size, DJ.of (fun q h => ((unhide O4).lt q h).2) (fun q h => (ho6.lt q h).1)⟩)
        have B6 := hide (bTr (unhide B4) hb6)
        clear hP ho6 hb6 qr O4 B4
        go_wp2_with fail
        exact bodyPost_ret (v := .tuple #[.slice av r.length cv, u]) (by simp [results, Try.results58, go_sem]) rfl ⟨⟨_, _, r, r2, rfl, unhide FIN⟩, unhide B6⟩
end Go.Proofs.Ytakjnbdjjeccoaa
