/- spec.ReadName. -/
import Derived.Test.YtgfecakjdoccmaaQReM
namespace Go.Proofs.Ytgfecakjdoccmaa
open Go.RowKit

theorem u8_is {c : UInt8} {n : Nat} (hn : n < 256) : ((c.toNat : Int) == (n : Int)) = decide (c = UInt8.ofNat n) := by
  rw [Bool.eq_iff_iff]
  simp only [beq_iff_eq, decide_eq_true_eq]
  constructor
  · intro h
    apply UInt8.toNat_inj.1
    rw [UInt8.toNat_ofNat']
    omega
  · intro h
    rw [h, UInt8.toNat_ofNat']
    omega

theorem own_base {w : World} {base base' n e size : Nat} {v : Value} {xs : List Value} (h : w.ownsRow base e size v n xs) (hb : base' ≤ base) : w.ownsRow base' e size v n xs := by
  refine ⟨h.1, h.2.imp_right ?_⟩
  rintro ⟨g, cap, cur, e', h1, r⟩
  exact ⟨g, cap, cur, e', Nat.le_trans hb h1, r⟩

set_option maxRecDepth 8000 in
set_option maxHeartbeats 4000000 in
theorem sReadName_any (s : ByteArray) (w : World) (hs : s.size ≤ 1048576) :
    Calls Try.prog 15 #[.string s] w fun e w' => RetN s w.heap.size e w' ∧ Below w.heap.size w w' := by
  by_cases h0 : s.size < 1
  · obtain rfl : s = ByteArray.empty := ByteArray.ext (Array.eq_empty_of_size_eq_zero (by show s.size = 0; omega))
    go_enter Try.func15, Try.ntmps15
    go_wp2_with fail
    go_ret2
    exact ⟨⟨[], true, _, rfl, .inl ⟨rfl, rfl, rfl⟩, World.ownsRow_nil _ _ _ _⟩, Below.refl _ _⟩
  have he := isEmpty_of h0
  by_cases h2 : 2000 < s.size
  · have no := hide (show ReadIs s [] false from .inr ⟨rfl, rfl, fun l' h1 h3 => by have := name_short h1 h3; omega⟩)
    have d1 : decide (2000 < (s.size : Int)) = true := by simp; omega
    go_enter Try.func15, Try.ntmps15
    go_wp2_with fail
    go_ret2
    exact ⟨⟨[], false, _, rfl, unhide no, World.ownsRow_nil _ _ _ _⟩, Below.refl _ _⟩
  have d1 : decide (2000 < (s.size : Int)) = false := by simp; omega
  have hmo := hide (fun l (h1 : dirB l = true) (h3 : nameT l = s) => mach_of h1 h3 h0)
  have RS0 := hide (show RS w (.slice none 0 0) (.slice none 0 0) ⟨[], [], [], false⟩ (w.alloc (.cells #[.string ⟨#[]⟩, .string ⟨#[]⟩] 55)) from
    ⟨⟨_, RowIs.new _ _ _⟩, World.ownsRow_nil _ _ _ _, World.ownsRow_nil _ _ _ _, fun g e => (by cases e), bAl (Below.refl _ _) _⟩)
  obtain ⟨i0, hi, hz0, hz1, hz2⟩ := info_parts info_u8
  obtain ⟨j0, gi, gz0, gz1, gz2⟩ := info_parts info_part
  go_enter Try.func15, Try.ntmps15
  go_wp2_with fail
  go_loopw [4, 6, 7, 8] (fun v4 v6 t i w' => ∃ (k : Nat) (m : Mach), k ≤ s.size ∧ i = .int .i64 k ∧ t = .bool m.inT ∧ m.out.length ≤ k ∧ m.part.length ≤ k ∧ m.attr.length ≤ k ∧ Hid (∀ q ∈ m.out, q.a.size ≤ 2000 ∧ q.t.size ≤ 2000) ∧ Hid (RS w v4 v6 m w') ∧ Hid (mach ⟨[], [], [], false⟩ s.data.toList = mach m (s.data.toList.drop k))) (fun _ _ _ i _ => s.size - (intOf i).toNat)
  case atStart => exact ⟨0, ⟨[], [], [], false⟩, Nat.zero_le _, rfl, rfl, Nat.le_refl _, Nat.le_refl _, Nat.le_refl _, hide (by simp), RS0, hide (by simp)⟩
  case round =>
    obtain ⟨k, ⟨o, at', pa, it⟩, hk, rfl, rfl, ho, hpa, hat, hq, hR, hm⟩ := hrel
    simp only at ho hpa hat hq hR
    by_cases hlt : k < s.size
    · have ed := hide (drop_at s k hlt)
      obtain ⟨c, hc⟩ : ∃ c, s[k] = c := ⟨_, rfl⟩
      rw [hc] at ed
      have e61 : ((c.toNat : Int) == 61) = decide (c = 61) := u8_is (n := 61) (by decide)
      have e44 : ((c.toNat : Int) == 44) = decide (c = 44) := u8_is (n := 44) (by decide)
      have e92 : ((c.toNat : Int) == 92) = decide (c = 92) := u8_is (n := 92) (by decide)
      cases it
      · by_cases h61 : c = 61
        · rw [decide_eq_true h61] at e61
          have st := hide (show mach ⟨[], [], [], false⟩ s.data.toList = mach ⟨o, pa, [], true⟩ (s.data.toList.drop (k + 1)) by rw [unhide hm, unhide ed, h61, mach_is])
          have cv := conv_own (unhide hR).part
          obtain ⟨x, hx⟩ := (unhide hR).box
          have f0 := hx.froz 0
          have k0 := hx.at (o := 0) (v := .string ⟨at'.toArray⟩) rfl
          have R2 := hide (unhide hR).attr
          simp only at cv
          clear hx h61 e44 e92
          go_wp2_with fail
          exact ⟨⟨k + 1, ⟨o, pa, [], true⟩, by omega, by go_num, rfl, by simp only; omega, Nat.zero_le _, by simp only; omega, hq, R2, st⟩, by simp [intOf]; omega⟩
        · rw [decide_eq_false h61] at e61
          have st := hide (show mach ⟨[], [], [], false⟩ s.data.toList = mach ⟨o, at', pa ++ [c], false⟩ (s.data.toList.drop (k + 1)) by rw [unhide hm, unhide ed, mach_letter _ _ _ h61])
          have zR := (unhide hR).lt
          clear h61 e44 e92
          go_wp2_with (at_builtin; refine wpList_append_own_at _ rfl _ _ 22 rfl (w.heap.size + 1) 5 i0 (.int .u8 0) 1 1 Try.underlying22 hi hz0 hz1 hz2 rfl (by decide) _ _ _ rfl ((unhide hR).part.alloc _) ⟨_, 0, none⟩ 1 1 [byteV c] rfl rfl (cell_one_new _ _ _) (fun x hx => by simp at hx; subst hx; rfl) (by simp only; unfold maxLen; omega) (by simp only; omega) (by simp; omega) ?_; intro v' w4 hown4 hgrow4 _ hat4)
          have R2 := hide ((unhide hR).byte hown4 hgrow4 hat4)
          exact ⟨⟨k + 1, ⟨o, at', pa ++ [c], false⟩, by omega, by go_num, rfl, by simp only; omega, by simp; omega, by simp only; omega, hq, R2, st⟩, by simp [intOf]; omega⟩
      · by_cases h44 : c = 44
        · rw [decide_eq_true h44] at e44
          have st := hide (show mach ⟨[], [], [], false⟩ s.data.toList = mach ⟨(⟨o, at', pa, true⟩ : Mach).toOut, at', [], false⟩ (s.data.toList.drop (k + 1)) by rw [unhide hm, unhide ed, h44, mach_comma _ _ rfl])
          have hq2 := hide (show ∀ q ∈ (⟨o, at', pa, true⟩ : Mach).toOut, q.a.size ≤ 2000 ∧ q.t.size ≤ 2000 from fun q hqm => by
            rcases List.mem_append.1 hqm with h | h
            · exact unhide hq q h
            · simp at h
              subst h
              exact ⟨by show at'.toArray.size ≤ _; rw [List.size_toArray]; omega, by show pa.toArray.size ≤ _; rw [List.size_toArray]; omega⟩)
          have cv := conv_own (unhide hR).part
          obtain ⟨x, hx⟩ := (unhide hR).box
          have f1 := hx.froz 1
          have k0 := hx.at (o := 0) (v := .string ⟨at'.toArray⟩) rfl
          have k1 := hx.at (o := 1) (v := .string x) rfl
          have hx2 : RowIs (wr.setCell ⟨w.heap.size, 1, none⟩ (.string ⟨pa.toArray⟩)) w.heap.size #[.string ⟨at'.toArray⟩, .string ⟨pa.toArray⟩] 55 := hx.set 1 _
          have e0 := hx2.at (o := 0) (v := .string ⟨at'.toArray⟩) rfl
          have e1 := hx2.at (o := 1) (v := .string ⟨pa.toArray⟩) rfl
          have ownS := hide (own_setT (o := 1) (u := .string ⟨pa.toArray⟩) (unhide hR).out (unhide hR).notB.1)
          have zR := (unhide hR).lt
          simp only at cv
          clear hx hx2 h44 e61 e92
          go_wp2_with (at_builtin; refine wpList_append_own_at _ rfl _ _ 23 rfl (w.heap.size + 1) 55 j0 _ 2 32 Try.underlying23 gi gz0 gz1 gz2 rfl (by decide) _ _ _ rfl ((unhide ownS).alloc _) ⟨_, 0, none⟩ 1 1 [.string ⟨at'.toArray⟩, .string ⟨pa.toArray⟩] rfl rfl (cell_two_at _ _ (by simp [World.setCell]) _ _ _) (fun x hx => by simp at hx; rcases hx with rfl | rfl <;> rfl) (by simp only; unfold maxLen; omega) (by simp only; omega) (by simp [World.setCell]; omega) ?_; intro v' w4 hown4 hgrow4 _ hat4)
          have R2 := hide ((unhide hR).push hown4 hgrow4)
          exact ⟨⟨k + 1, ⟨(⟨o, at', pa, true⟩ : Mach).toOut, at', [], false⟩, by omega, by go_num, rfl, by simp [Mach.toOut]; omega, Nat.zero_le _, by simp only; omega, hq2, R2, st⟩, by simp [intOf]; omega⟩
        rw [decide_eq_false h44] at e44
        by_cases h92 : c = 92
        · rw [decide_eq_true h92] at e92
          by_cases hn : k + 1 < s.size
          · have ed2 := hide (drop_at s (k + 1) hn)
            obtain ⟨d, hd⟩ : ∃ d, s[k + 1] = d := ⟨_, rfl⟩
            rw [hd] at ed2
            have st := hide (show mach ⟨[], [], [], false⟩ s.data.toList = mach ⟨o, at', pa ++ [d], true⟩ (s.data.toList.drop (k + 2)) by rw [unhide hm, unhide ed, unhide ed2, h92, mach_slash _ _ _ rfl])
            have zR := (unhide hR).lt
            have n0 : ((k : Int) + 1 == (s.size : Int)) = false := by simp; omega
            have n1 : (0 : Int) ≤ (k : Int) + 1 := by omega
            have n2 : (k : Int) + 1 < (s.size : Int) := by omega
            clear h44 h92 e61
            go_wp2_with (at_builtin; refine wpList_append_own_at _ rfl _ _ 22 rfl (w.heap.size + 1) 5 i0 (.int .u8 0) 1 1 Try.underlying22 hi hz0 hz1 hz2 rfl (by decide) _ _ _ rfl ((unhide hR).part.alloc _) ⟨_, 0, none⟩ 1 1 [byteV d] rfl rfl (cell_one_new _ _ _) (fun x hx => by simp at hx; subst hx; rfl) (by simp only; unfold maxLen; omega) (by simp only; omega) (by simp; omega) ?_; intro v' w4 hown4 hgrow4 _ hat4)
            have R2 := hide ((unhide hR).byte hown4 hgrow4 hat4)
            exact ⟨⟨k + 2, ⟨o, at', pa ++ [d], true⟩, by omega, by go_num, rfl, by simp only; omega, by simp; omega, by simp only; omega, hq, R2, st⟩, by simp [intOf]; omega⟩
          · have no := hide (show ReadIs s [] false from .inr ⟨rfl, rfl, fun l' h1 h3 => by
              obtain ⟨m, a1, _⟩ := unhide hmo l' h1 h3
              rw [unhide hm, unhide ed, h92, List.drop_of_length_le (show s.data.toList.length ≤ k + 1 by simp; omega), mach_last _ rfl] at a1
              cases a1⟩)
            have n0 : ((k : Int) + 1 == (s.size : Int)) = true := by simp; omega
            have hbl := hide (unhide hR).bel
            clear h44 h92 e61
            go_wp2_with fail
            go_ret2
            exact ⟨⟨[], false, _, rfl, unhide no, World.ownsRow_nil _ _ _ _⟩, unhide hbl⟩
        rw [decide_eq_false h92] at e92
        have st := hide (show mach ⟨[], [], [], false⟩ s.data.toList = mach ⟨o, at', pa ++ [c], true⟩ (s.data.toList.drop (k + 1)) by rw [unhide hm, unhide ed, mach_byte _ _ _ h44 h92])
        have zR := (unhide hR).lt
        clear h44 h92 e61
        go_wp2_with (at_builtin; refine wpList_append_own_at _ rfl _ _ 22 rfl (w.heap.size + 1) 5 i0 (.int .u8 0) 1 1 Try.underlying22 hi hz0 hz1 hz2 rfl (by decide) _ _ _ rfl ((unhide hR).part.alloc _) ⟨_, 0, none⟩ 1 1 [byteV c] rfl rfl (cell_one_new _ _ _) (fun x hx => by simp at hx; subst hx; rfl) (by simp only; unfold maxLen; omega) (by simp only; omega) (by simp; omega) ?_; intro v' w4 hown4 hgrow4 _ hat4)
        have R2 := hide ((unhide hR).byte hown4 hgrow4 hat4)
        exact ⟨⟨k + 1, ⟨o, at', pa ++ [c], true⟩, by omega, by go_num, rfl, by simp only; omega, by simp; omega, by simp only; omega, hq, R2, st⟩, by simp [intOf]; omega⟩
    · have hend := hide (show mach ⟨[], [], [], false⟩ s.data.toList = some ⟨o, at', pa, it⟩ by
        rw [unhide hm, List.drop_of_length_le (show s.data.toList.length ≤ k by simp; omega)]; rfl)
      have hq2 := hide (show ∀ q ∈ o ++ [(⟨⟨at'.toArray⟩, ⟨pa.toArray⟩⟩ : PartT)], PartT.Ok q from fun q hqm => by
        rcases List.mem_append.1 hqm with h | h
        · have := unhide hq q h
          exact ⟨by unfold maxLen; omega, by unfold maxLen; omega⟩
        · simp at h
          subst h
          exact ⟨by show at'.toArray.size ≤ _; rw [List.size_toArray]; unfold maxLen; omega, by show pa.toArray.size ≤ _; rw [List.size_toArray]; unfold maxLen; omega⟩)
      have cv := conv_own (unhide hR).part
      obtain ⟨x, hx⟩ := (unhide hR).box
      have f1 := hx.froz 1
      have k0 := hx.at (o := 0) (v := .string ⟨at'.toArray⟩) rfl
      have k1 := hx.at (o := 1) (v := .string x) rfl
      have hx2 : RowIs (wr.setCell ⟨w.heap.size, 1, none⟩ (.string ⟨pa.toArray⟩)) w.heap.size #[.string ⟨at'.toArray⟩, .string ⟨pa.toArray⟩] 55 := hx.set 1 _
      have e0 := hx2.at (o := 0) (v := .string ⟨at'.toArray⟩) rfl
      have e1 := hx2.at (o := 1) (v := .string ⟨pa.toArray⟩) rfl
      have ownS := hide (own_setT (o := 1) (u := .string ⟨pa.toArray⟩) (unhide hR).out (unhide hR).notB.1)
      have zR := (unhide hR).lt
      simp only at cv
      clear hx hx2
      cases it
      · have no := hide (show ReadIs s [] false from .inr ⟨rfl, rfl, fun l' h1 h3 => by
          obtain ⟨m, a1, a2, _⟩ := unhide hmo l' h1 h3
          rw [unhide hend] at a1
          cases a1
          cases a2⟩)
        go_wp2_with (at_builtin; refine wpList_append_own_at _ rfl _ _ 23 rfl (w.heap.size + 1) 55 j0 _ 2 32 Try.underlying23 gi gz0 gz1 gz2 rfl (by decide) _ _ _ rfl ((unhide ownS).alloc _) ⟨_, 0, none⟩ 1 1 [.string ⟨at'.toArray⟩, .string ⟨pa.toArray⟩] rfl rfl (cell_two_at _ _ (by simp [World.setCell]) _ _ _) (fun x hx => by simp at hx; rcases hx with rfl | rfl <;> rfl) (by simp only; unfold maxLen; omega) (by simp only; omega) (by simp [World.setCell]; omega) ?_; intro v' w4 hown4 hgrow4 _ hat4)
        have R2 := hide ((unhide hR).push hown4 hgrow4)
        go_ret2
        exact ⟨⟨[], false, _, rfl, unhide no, World.ownsRow_nil _ _ _ _⟩, (unhide R2).bel⟩
      have hun := hide (show ∀ l', dirB l' = true → nameT l' = s → l' = o ++ [(⟨⟨at'.toArray⟩, ⟨pa.toArray⟩⟩ : PartT)] from fun l' h1 h3 => by
          obtain ⟨m, a1, _, a3⟩ := unhide hmo l' h1 h3
          rw [unhide hend] at a1
          cases a1
          exact a3.symm)
      have hgd : Hid (nameT (o ++ [(⟨⟨at'.toArray⟩, ⟨pa.toArray⟩⟩ : PartT)]) = s → dirB (o ++ [(⟨⟨at'.toArray⟩, ⟨pa.toArray⟩⟩ : PartT)]) = true) := hide (fun e => by
        cases hd : dirB (o ++ [(⟨⟨at'.toArray⟩, ⟨pa.toArray⟩⟩ : PartT)])
        · exfalso
          have e2 : nameT (o ++ [(⟨⟨at'.toArray⟩, ⟨pa.toArray⟩⟩ : PartT)]) = ⟨#[]⟩ := by unfold nameT; rw [hd]; rfl
          rw [e2] at e
          exact h0 (by rw [← e]; decide)
        · rfl)
      have hol : (o ++ [(⟨⟨at'.toArray⟩, ⟨pa.toArray⟩⟩ : PartT)]).length ≤ maxLen := by simp; unfold maxLen; omega
      go_wp2_with (at_builtin; refine wpList_append_own_at _ rfl _ _ 23 rfl (w.heap.size + 1) 55 j0 _ 2 32 Try.underlying23 gi gz0 gz1 gz2 rfl (by decide) _ _ _ rfl ((unhide ownS).alloc _) ⟨_, 0, none⟩ 1 1 [.string ⟨at'.toArray⟩, .string ⟨pa.toArray⟩] rfl rfl (cell_two_at _ _ (by simp [World.setCell]) _ _ _) (fun x hx => by simp at hx; rcases hx with rfl | rfl <;> rfl) (by simp only; unfold maxLen; omega) (by simp only; omega) (by simp [World.setCell]; omega) ?_; intro v' w4 hown4 hgrow4 _ hat4)
      have R2 := hide ((unhide hR).push hown4 hgrow4)
      have o2 : Hid (w4.ownsRow (w.heap.size + 1) 55 2 v' (o ++ [(⟨⟨at'.toArray⟩, ⟨pa.toArray⟩⟩ : PartT)]).length (partsV (o ++ [⟨⟨at'.toArray⟩, ⟨pa.toArray⟩⟩]))) := hide (unhide R2).out
      have b2 := hide (unhide R2).bel
      clear hown4 hgrow4 hat4 R2 cv f1 k0 k1 e0 e1 ownS zR hR
      generalize o ++ [(⟨⟨at'.toArray⟩, ⟨pa.toArray⟩⟩ : PartT)] = L at hq2 hun hgd hol o2
      obtain ⟨a, cap, rfl, hsl⟩ := own_parts (unhide o2)
      have qn := hide (sNameText_any a L.length cap L w4 hol hsl (unhide hq2))
      clear hsl
      generalize hT : nameT L = T at qn hgd
      refine (unhide qn).mono ?_
      rintro e w5 ⟨rfl, hb5⟩
      replace o2 := hide (own_keepT (unhide o2) hb5)
      replace b2 := hide (bTr (unhide b2) hb5)
      clear hb5 qn
      by_cases hTs : T = s
      · have yes := hide (show ReadIs s L true from .inl ⟨rfl, unhide hgd hTs, by rw [hT, hTs]⟩)
        have o3 := hide (own_base (unhide o2) (show w.heap.size ≤ w.heap.size + 1 by omega))
        clear hT hgd hun hmo hend hm o2
        subst hTs
        go_wp2_with fail
        go_ret2
        exact ⟨⟨L, true, _, rfl, unhide yes, unhide o3⟩, unhide b2⟩
      · have no := hide (show ReadIs s [] false from .inr ⟨rfl, rfl, fun l' h1 h3 => hTs (by rw [← hT, ← unhide hun l' h1 h3]; exact h3)⟩)
        have hne : (T.toList == s.toList) = false := by simpa using str_ne hTs
        clear hT hgd hun hmo hend hm o2 hTs
        go_wp2_with fail
        go_ret2
        exact ⟨⟨[], false, _, rfl, unhide no, World.ownsRow_nil _ _ _ _⟩, unhide b2⟩
end Go.Proofs.Ytgfecakjdoccmaa
