/- What GroupsOf, MembersOf, Loops tell is told once; how long it is. -/
import Derived.Test.YtakjnbdjjeccoaaGGro2
import Derived.Test.YtakjnbdjjeccoaaGXs
namespace Go.Proofs.Ytakjnbdjjeccoaa
open Go.RowKit

theorem RisS.nodup {r : List Bs} (h : RisS r) : r.Nodup := List.Pairwise.imp (fun {a b} h e => by rw [e] at h; exact cmpB_irr b h) h
open Classical in
theorem ris_le {l : List NestT} {r : List Bs} (h : RisS r) (f : NestT → Bs) (hr : ∀ g ∈ r, GoodL l ∧ ∃ q ∈ l, f q = g) : r.length ≤ 1000 := by
  cases r with
  | nil => simp
  | cons x r =>
    have hG := (hr x (by simp)).1
    have := nodup_le (x :: r) (l.map f) h.nodup (fun g hg => List.mem_map.2 (hr g hg).2)
    rw [List.length_map] at this
    exact Nat.le_trans this (Nat.le_trans hG.1 (by omega))
theorem Inn.first {l : List NestT} {g m : Bs} (h : Inn l g m) : GoodL l ∧ ∃ q ∈ l, NestT.f0 q = g := by
  obtain ⟨n, hn⟩ := h
  obtain ⟨c, hG, i, hi, h1, _⟩ := dist_first hn
  exact ⟨hG, l[i], List.getElem_mem hi, h1⟩
theorem Inn.last {l : List NestT} {g m : Bs} (h : Inn l g m) : GoodL l ∧ ∃ q ∈ l, NestT.f1 q = m := by
  obtain ⟨n, hn⟩ := h
  obtain ⟨c, hG, i, hi, _, h1⟩ := dist_last hn
  exact ⟨hG, l[i], List.getElem_mem hi, h1⟩
theorem PGrp.uniq {l : List NestT} {m : Bs} {r s : List Bs} (h : PGrp l m r) (k : PGrp l m s) : r = s := h.1.ext k.1 (fun x => by rw [h.2 x, k.2 x])
theorem PGrp.len {l : List NestT} {m : Bs} {r : List Bs} (h : PGrp l m r) : r.length ≤ 1000 := ris_le h.1 _ (fun g hg => ((h.2 g).1 hg).first)
theorem PLoo.uniq {l : List NestT} {r s : List Bs} (h : PLoo l r) (k : PLoo l s) : r = s := h.1.ext k.1 (fun x => by rw [h.2 x, k.2 x])
theorem PLoo.len {l : List NestT} {r : List Bs} (h : PLoo l r) : r.length ≤ 1000 := ris_le h.1 _ (fun g hg => ((h.2 g).1 hg).first)
theorem PMem.uniq {l : List NestT} {m : Bs} {r s : List Bs} (h : PMem l m r) (k : PMem l m s) : r = s := h.1.ext k.1 (fun x => by rw [h.2 x, k.2 x])
theorem PMem.len {l : List NestT} {m : Bs} {r : List Bs} (h : PMem l m r) : r.length ≤ 1000 := ris_le h.1 _ (fun g hg => ((h.2 g).1 hg).1.last)
theorem sGroupsOf_l (a : Option Addr) (len cap : Nat) (l : List NestT) (m : Bs) (w : World) (hl : len ≤ maxLen) (hs : SlNest w a len l) (hok : ∀ q ∈ l, NestT.Ok q) (hm : m.size ≤ 1048576) :
    Calls Try.prog 36 #[.slice a len cap, .string m] w fun e w' => (∃ v r, e = .returned v ∧ PGrp l m r ∧ w'.ownsRow w.heap.size 9 1 v r.length (r.map Value.string)) ∧ Below w.heap.size w w' := sGroupsOf_any a len cap l m w hl hs hok hm
end Go.Proofs.Ytakjnbdjjeccoaa
