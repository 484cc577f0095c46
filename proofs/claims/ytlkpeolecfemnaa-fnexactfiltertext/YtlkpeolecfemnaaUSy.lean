/- spec.FilterText. -/
import Derived.Test.YtlkpeolecfemnaaUSx
namespace Go.Proofs.Ytlkpeolecfemnaa.V
open Go.RowKit Go.Maps

set_option maxHeartbeats 1000000 in
theorem sFilterText_any (a : Option Addr) (len cap : Nat) (l : List FilterNodeT) (w : World) (hl : len ≤ 1048576) (hs : SlFilterNode w a len l) (hok : ∀ q ∈ l, OkX q) :
    Calls Try.prog 5 #[.slice a len cap] w fun e w' => (∃ s, e = .returned (.string s) ∧ FtIs l s) ∧ Below w.heap.size w w' := by
  have q := hide (l3Tree_any a len cap l w hl hs hok)
  clear hs hok
  go_enter Try.func5, Try.ntmps5
  go_wp2_with fail
  refine (unhide q).mono ?_
  rintro e w1 ⟨(⟨h, X, sa, sn, sc, rfl⟩ | ⟨h, t, sa, sn, sc, rfl, ht1, ht2, ht3⟩), hb1⟩
  · have H := hide h
    clear h q
    go_wp2_with fail
    go_ret
    exact ⟨⟨_, rfl, .inl ⟨unhide H, rfl⟩⟩, bAl hb1 _⟩
  · have H := hide h
    have lt' := ft_len h ht1 ht2
    have q2 := hide (sText_any 20 t (.slice sa sn sc) w.heap.size (w1.alloc (.cells (row8 t.n (.slice sa sn sc)) 35)) (ht3.keptY ((KeptY.refl _ w1).alloc _)) ht2 lt')
    have HG := hide (show growT 20 l = some (t, []) from (grow_iff 20 _ _ _).2 ⟨ht1, ht2⟩)
    have lnA : (tb (ftx 20 t)).size ≤ 100000 := by rw [tb_size]; exact lt'
    obtain ⟨T, hT⟩ : ∃ T, tb (ftx 20 t) = T := ⟨_, rfl⟩
    rw [hT] at q2 lnA
    have HT := hide hT
    have B1 := hide (bAl hb1 (.cells (row8 t.n (.slice sa sn sc)) 35))
    clear h q hT ht1 ht2 ht3 lt' hb1
    generalize t.n = X at *
    go_wp2_with fail
    refine (unhide q2).mono ?_
    rintro e w2 ⟨rfl, hb2⟩
    have B2 := hide (bTr (unhide B1) hb2)
    clear q2 hb2 B1
    by_cases hm : 1000 < T.size
    · go_wp2_with fail
      go_ret
      exact ⟨⟨_, rfl, .inr ⟨unhide H, t, unhide HG, by rw [unhide HT, if_pos hm]⟩⟩, unhide B2⟩
    · go_wp2_with fail
      go_ret
      exact ⟨⟨_, rfl, .inr ⟨unhide H, t, unhide HG, by rw [unhide HT, if_neg hm]⟩⟩, unhide B2⟩
end Go.Proofs.Ytlkpeolecfemnaa.V
