/- spec.l20Escaped. -/
import Derived.Test.YtdhpfhpegaekpaaDoorELy
namespace Go.Proofs.YtdhpfhpegaekpaaDoor.V
set_option linter.unusedSimpArgs false
set_option linter.unusedVariables false
open Go.RowKit

theorem bapp (a b : ByteArray) : (a ++ b).data.toList = a.data.toList ++ b.data.toList := by simp
theorem beq_of {a : ByteArray} {l : List UInt8} (h : a.data.toList = l) : a = ⟨l.toArray⟩ := by
  cases a with
  | mk d => simp at h; simp [← h]
theorem ex_app (a b : List UInt8) : ex (a ++ b) = ex a ++ ex b := by simp [ex]
theorem ex_one (b : UInt8) : ex [b] = exb b := by simp [ex]

set_option maxRecDepth 100000 in
set_option maxHeartbeats 4000000 in
theorem escaped_s (s : ByteArray) (w : World) (hs : s.size ≤ 1000) :
    Calls Tryd.prog 25 #[.string s] w fun e w' => e = .returned (.string ⟨(ex s.data.toList).toArray⟩) ∧ Below w.heap.size w w' := by
  have hlen : s.data.toList.length = s.size := (Lib.size_eq s).symm
  go_enter Tryd.func25, Tryd.ntmps25
  go_wp2_with fail
  go_loopw [3, 4] (fun t i w' => ∃ (k : Nat) (o : ByteArray), i = .int .i64 k ∧ k ≤ s.size ∧ t = .string o ∧ Hid (o.data.toList = ex (s.data.toList.take k)) ∧ w' = w) (fun _ i _ => s.size - (Go.RowKit.intOf i).toNat)
  case atStart => exact ⟨0, ⟨#[]⟩, rfl, by omega, rfl, hide (by simp [ex]), rfl⟩
  case round =>
    obtain ⟨k, o, rfl, hk, rfl, HO, rfl⟩ := hrel
    have ho : o.size ≤ 6 * s.size := by
      rw [Lib.size_eq, unhide HO]
      have := ex_len (s.data.toList.take k)
      rw [List.length_take, hlen] at this
      omega
    by_cases hlt : k < s.size
    · have hx : s.data.toList.take (k + 1) = s.data.toList.take k ++ [s[k]] := take_at s k hlt
      obtain ⟨c, hc⟩ : ∃ c, s[k] = c := ⟨_, rfl⟩
      rw [hc] at hx
      have HX := hide hx
      clear hx
      have c1 : (k : Int) ≤ (k : Int) + 1 := by omega
      have c2 : (k : Int) + 1 ≤ (s.size : Int) := by omega
      have one : (s.extract k (k + 1)).data.toList = [c] := by
        have e2 : (s.data.toList.drop k).take (k + 1 - k) = [s.data.toList[k]'(by omega)] := by
          rw [Nat.add_sub_cancel_left, List.drop_eq_getElem_cons (by omega)]
          rfl
        rw [Lib.extract_data, e2, ← hc]; rfl
      have ONE := hide one
      clear one
      have next : ∀ (T : ByteArray), T.data.toList = exb c → Hid ((o ++ T).data.toList = ex (s.data.toList.take (k + 1))) := fun T h => hide (by rw [bapp, unhide HO, unhide HX, ex_app, ex_one, h])
      have NX := hide next
      clear next HX
      by_cases h1 : c = 38
      · subst h1
        go_wp2_with fail
        exact ⟨⟨k + 1, _, by rfl, by omega, rfl, unhide NX _ (by rfl), trivial⟩, by simp [Go.RowKit.intOf]; omega⟩
      by_cases h2 : c = 60
      · subst h2
        clear h1
        go_wp2_with fail
        exact ⟨⟨k + 1, _, by rfl, by omega, rfl, unhide NX _ (by rfl), trivial⟩, by simp [Go.RowKit.intOf]; omega⟩
      by_cases h3 : c = 62
      · subst h3
        clear h1 h2
        go_wp2_with fail
        exact ⟨⟨k + 1, _, by rfl, by omega, rfl, unhide NX _ (by rfl), trivial⟩, by simp [Go.RowKit.intOf]; omega⟩
      by_cases h4 : c = 34
      · subst h4
        clear h1 h2 h3
        go_wp2_with fail
        exact ⟨⟨k + 1, _, by rfl, by omega, rfl, unhide NX _ (by rfl), trivial⟩, by simp [Go.RowKit.intOf]; omega⟩
      have e0 := hide (show exb c = [c] by simp [exb, h1, h2, h3, h4])
      have y1 : ¬ (c.toNat : Int) = 38 := fun h => h1 (UInt8.toNat_inj.1 (by have : (38 : UInt8).toNat = 38 := rfl; omega))
      have y2 : ¬ (c.toNat : Int) = 60 := fun h => h2 (UInt8.toNat_inj.1 (by have : (60 : UInt8).toNat = 60 := rfl; omega))
      have y3 : ¬ (c.toNat : Int) = 62 := fun h => h3 (UInt8.toNat_inj.1 (by have : (62 : UInt8).toNat = 62 := rfl; omega))
      have y4 : ¬ (c.toNat : Int) = 34 := fun h => h4 (UInt8.toNat_inj.1 (by have : (34 : UInt8).toNat = 34 := rfl; omega))
      clear h1 h2 h3 h4
      go_wp2_with fail
      exact ⟨⟨k + 1, _, by rfl, by omega, rfl, unhide NX _ (by rw [unhide ONE, unhide e0]), trivial⟩, by simp [Go.RowKit.intOf]; omega⟩
    · have hk : k = s.size := by omega
      subst hk
      go_wp2_with fail
      go_ret
      refine ⟨congrArg (fun x => Ending.returned (Value.string x)) (beq_of ?_), Below.refl _ _⟩
      rw [unhide HO, ← hlen, List.take_length]
end Go.Proofs.YtdhpfhpegaekpaaDoor.V
