/- spec.DocText. -/
import Derived.Test.YtdhpfhpegaekpaaDoorEMf
namespace Go.Proofs.YtdhpfhpegaekpaaDoor.V
set_option linter.unusedSimpArgs false
set_option linter.unusedVariables false
open Go.RowKit

theorem all_ok {l : List ElemE} {w : World} (hr : ∀ x ∈ l, RightE x.t) (hm : ∀ x ∈ l, ElemM w 0 x) : ∀ {t : DT}, AllD (· ∈ l) t → AllD (OkE w) t
  | _, .mk h1 h2 => .mk ⟨hr _ h1, hm _ h1⟩ fun t ht => all_ok hr hm (h2 t ht)
set_option maxRecDepth 100000 in
set_option maxHeartbeats 4000000 in
theorem sDocText_n (h : Hd) (xs : List ElemT) (w : World) (hn : ∀ x ∈ xs, ElemN x) (hl : xs.length ≤ maxLen) (hs : SqElem w 0 h xs) :
    Calls Tryd.prog 6 #[.slice h.a h.len h.cap] w fun e w' => e = .returned (.string ⟨(partTx xs 0).toArray⟩) ∧ Below w.heap.size w w' := by
  obtain ⟨l, rfl, hs⟩ := hs
  have q := hide (l20Tree_any h l w (by simpa using hl) hs (fun x hx => hn _ (List.mem_map.2 ⟨x, hx, rfl⟩)))
  have HS := hide hs
  clear hl hs hn
  go_enter Tryd.func6, Tryd.ntmps6
  go_wp2_with fail
  refine (unhide q).mono ?_
  rintro e w1 ⟨(⟨hg, X, k, sa, sn, sc, rfl, _⟩ | ⟨hg, t, sa, sn, sc, rfl, ht, htr⟩), hb1⟩
  · have no := hide (show [] = partTx (l.map (·.t)) 0 from PartIs.eq (.inl ⟨fun g => hg g.1, rfl⟩))
    clear hg q
    go_wp2_with fail
    go_ret
    exact ⟨by rw [← unhide no]; rfl, bAl hb1 _⟩
  · have h60 : l.length ≤ 60 := by simpa using hg.1
    have hr : ∀ x ∈ l, RightE x.t := fun x hx => (hg.2.1 _ (List.mem_map_of_mem hx)).r
    have hdl := dtx_len hr _ _ _ _ ht
    have yes := hide (show bnd t.tx = partTx (l.map (·.t)) 0 from PartIs.eq (.inr ⟨hg, 12, 0, l.length, t.tx, rfl, by simpa using hdl.1, take_txD _ _ _ _ ht, rfl⟩))
    have hlen : t.tx.length ≤ 720000 := by rw [← (take_in _ _ _ _ ht).2]; omega
    have HT := hide (fun (o : Obj) => htr.keptD (w' := w1.alloc o) ((KeptD.refl _ _).alloc o))
    have hok := hide (fun (o : Obj) => all_ok (w := w1.alloc o) hr (fun x hx => (((unhide HS).keep (bAl hb1 o)).2.2 x hx)) (take_in _ _ _ _ ht).1)
    have qt := hide (fun (o : Obj) => text_any 12 w.heap.size t (.slice sa sn sc) (w1.alloc o) (unhide HT o) (unhide hok o) hlen)
    have qb := hide (fun w => bound_any ⟨t.tx.toArray⟩ w (by rw [Lib.size_eq]; simpa using hlen))
    have HB := hide hb1
    obtain ⟨k1, hk1⟩ : ∃ k, t.at = k := ⟨_, rfl⟩
    obtain ⟨⟨⟨m0, m1, m2, m3, m4⟩, ⟨b2, s2, q2⟩, ⟨b3, s3, q3⟩⟩, hx1⟩ : ∃ x, t.n = x := ⟨_, rfl⟩
    rw [hx1, hk1] at qt ⊢
    simp only [agg7] at qt ⊢
    clear hg h60 hr hdl hlen HT hok ht htr hb1 q hk1 hx1 HS
    go_wp2_with fail
    refine (unhide qt _).mono ?_
    rintro e w5 ⟨rfl, hb5⟩
    have B5 := hide (bTr (bAl (unhide HB) _) hb5)
    clear hb5 qt HB
    go_wp2_with fail
    refine (unhide qb _).mono ?_
    rintro e w6 ⟨rfl, rfl⟩
    clear qb
    go_wp2_with fail
    go_ret
    refine ⟨?_, unhide B5⟩
    rw [← unhide yes]
    rfl
end Go.Proofs.YtdhpfhpegaekpaaDoor.V
