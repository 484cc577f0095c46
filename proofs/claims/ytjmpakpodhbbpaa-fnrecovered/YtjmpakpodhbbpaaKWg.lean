/- RunRecovery by the program. -/
import Derived.Test.YtjmpakpodhbbpaaKWf
import Derived.Test.YtjmpakpodhbbpaaKWr
import Derived.Test.YtjmpakpodhbbpaaKMi
import Derived.Test.YtjmpakpodhbbpaaKEi
import Derived.Laws.AppendOwn
namespace Go.Proofs.Ytjmpakpodhbbpaa
set_option linter.unusedSimpArgs false
set_option linter.unusedVariables false
set_option maxRecDepth 20000
open Go.RowKit Go.Maps


theorem rcNext_bad {x : RcT} {k t : Int} {s : ByteArray} (h : ¬ rcFault x k t s = 0) : rcNext x k t s = x := by unfold rcNext; rw [if_pos h]
set_option maxHeartbeats 2000000 in
theorem outcome_any {b : Nat} {x : RcT} {m : Option Nat} (k t : Int) (s : ByteArray) (w : World) (h : RcAt w b x m) (hs : s.size ≤ maxLen) (hd : 0 ≤ x.delay ∧ x.delay ≤ 100000000000) (hn : x.votes.length < 1000) :
    Calls Try.prog 15 #[.pointer (some ⟨b, 0, none⟩), .agg #[.int .i64 k, .int .i64 t, .string s]] w fun e w' => e = .returned (.int .i64 (rcFault x k t s)) ∧ DoEnd b m (rcNext x k t s) w w' := by
  obtain ⟨W2, hW2⟩ : ∃ W, W = w.alloc (.cells #[.int .i64 k, .int .i64 t, .string s] 31) := ⟨_, rfl⟩
  obtain ⟨W3, hW3⟩ : ∃ W, W = W2.alloc (.cells (rulesV b) 67) := ⟨_, rfl⟩
  have b2 : Below w.heap.size w W2 := by rw [hW2]; exact bAl (Below.refl _ _) _
  have b3 : Below W2.heap.size W2 W3 := by rw [hW3]; exact bAl (Below.refl _ _) _
  have z2 : W2.heap.size = w.heap.size + 1 := by rw [hW2]; simp
  have R2 := show RowIs W2 w.heap.size #[.int .i64 k, .int .i64 t, .string s] 31 by rw [hW2]; exact RowIs.new _ _ _
  have R3 := hide (R2.keep b3)
  have RV := show RowIs W3 (w.heap.size + 1) (rulesV b) 67 by rw [hW3, ← z2]; exact RowIs.new _ _ _
  have h3 := hide ((h.keep b2).keep b3)
  have B3 := hide (bTr b2 b3)
  have qb := hide (broken_any k t s (w.heap.size + 1) W3 (unhide h3) hs RV)
  have e0 := R2.at (o := 0) (v := .int .i64 k) rfl
  have e1 := R2.at (o := 1) (v := .int .i64 t) rfl
  have e2 := R2.at (o := 2) (v := .string s) rfl
  have ez := R2.lt
  have HW2 := hide hW2.symm
  unfold rulesV at hW3
  have HW3 := hide hW3.symm
  have HS := hide hs
  have HD := hide hd
  have HN := hide hn
  have FB := hide (fun (hf : ¬ rcFault x k t s = 0) => rcNext_bad hf)
  have qd := hide (fun (hf : rcFault x k t s = 0) w' (h' : RcAt w' b x m) => do_any k t s w' h' (unhide HS) hf (unhide HD) (unhide HN))
  generalize rcFault x k t s = F at *
  generalize rcNext x k t s = X at *
  clear hW2 hW3 R2 RV h hs hd hn b2 b3
  go_enter Try.func15, Try.ntmps15
  go_upto_region 1 with fail
  rw [unhide HW2]
  go_wp2_with fail
  rw [unhide HW3]
  refine (unhide qb).mono ?_
  rintro e w4 ⟨rfl, hb4⟩
  have R4 := hide ((unhide R3).keep hb4)
  have h4 := hide ((unhide h3).keep hb4)
  have B4 := hide (bTr (unhide B3) hb4)
  clear hb4 qb e0 e1 e2 ez HW2 HW3 R3 h3 B3
  by_cases hf : F = 0
  · have q := hide (unhide qd hf w4 (unhide h4))
    subst hf
    have e0 := (unhide R4).at (o := 0) (v := .int .i64 k) rfl
    have e1 := (unhide R4).at (o := 1) (v := .int .i64 t) rfl
    have e2 := (unhide R4).at (o := 2) (v := .string s) rfl
    have ez := (unhide R4).lt
    go_wp2_with fail
    refine (unhide q).mono ?_
    rintro e w5 ⟨rfl, ⟨m', h5, hm5⟩, T5⟩
    have H5 := hide h5
    have M5 := hide hm5
    have TT := hide T5
    clear h5 hm5 T5 q e0 e1 e2 ez
    go_wp2_with fail
    go_ret
    refine ⟨rfl, ⟨m', unhide H5, fun mb e => ?_⟩, (Tch.of (unhide B4)).trans (unhide TT) (fun mb e => .inl e)⟩
    rcases unhide M5 mb e with h6 | h6
    · exact .inl h6
    · have := (unhide B4).size
      right; omega
  · have d0 : decide (F = 0) = false := by simp [hf]
    go_wp2_with fail
    go_ret
    rw [unhide FB hf]
    exact ⟨rfl, ⟨m, unhide h4, fun mb e => .inl e⟩, Tch.of (unhide B4)⟩
end Go.Proofs.Ytjmpakpodhbbpaa
