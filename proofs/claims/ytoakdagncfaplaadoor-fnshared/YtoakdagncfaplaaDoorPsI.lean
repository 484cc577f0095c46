/- impl.Split. -/
import Derived.Test.YtoakdagncfaplaaDoorPsC
import Derived.Test.YtoakdagncfaplaaDoorPShM
namespace Go.Proofs.YtoakdagncfaplaaDoor.D
open Go.RowKit

def shs (s : Int) (need : Nat) (l : List UInt8) (k : Nat) : List ShareT := (List.range k).map fun i : Nat => ⟨(i : Int) + 1, pev ((i : Int) + 1) (cof s l (need - 1)) % 1073741789⟩
theorem shs_snoc (s : Int) (need : Nat) (l : List UInt8) (k : Nat) : shs s need l (k + 1) = shs s need l k ++ [⟨(k : Int) + 1, pev ((k : Int) + 1) (cof s l (need - 1)) % 1073741789⟩] := by
  simp [shs, List.range_succ]
theorem shs_len (s : Int) (need : Nat) (l : List UInt8) (k : Nat) : (shs s need l k).length = k := by simp [shs]
def SplC (s many need : Int) (l : List UInt8) : Prop := 0 ≤ s ∧ s < 1073741789 ∧ l.length ≤ 20000 ∧ 1 ≤ need ∧ need ≤ many ∧ many ≤ 20
/-- What Split answers. -/
def SplIs (s many need : Int) (l : List UInt8) (r : List ShareT) : Prop := (SplC s many need l ∧ r = shs s need.toNat l many.toNat) ∨ (¬ SplC s many need l ∧ r = [])
theorem SplIs.uniq {s many need : Int} {l : List UInt8} {r r' : List ShareT} (h : SplIs s many need l r) (h' : SplIs s many need l r') : r = r' := by
  rcases h with ⟨h1, rfl⟩ | ⟨h1, rfl⟩ <;> rcases h' with ⟨h2, rfl⟩ | ⟨h2, rfl⟩
  · rfl
  · exact absurd h1 h2
  · exact absurd h2 h1
  · rfl
theorem SplIs.len {s many need : Int} {l : List UInt8} {r : List ShareT} (h : SplIs s many need l r) : r.length ≤ 20 := by
  rcases h with ⟨h1, rfl⟩ | ⟨h1, rfl⟩
  · rw [shs_len]; have := h1.2.2.2.2.2; omega
  · simp
theorem own_monoE {w : World} {base base' n e size : Nat} {v : Value} {xs : List Value} (h : w.ownsRow base e size v n xs) (hb : base' ≤ base) : w.ownsRow base' e size v n xs :=
  ⟨h.1, h.2.imp_right fun ⟨g, cp, cur, h1, h2, h3⟩ => ⟨g, cp, cur, h1, Nat.le_trans hb h2, h3⟩⟩
theorem own_fe {w : World} {base : Nat} {v : Value} {s : Int} {l : List UInt8} {k : Nat} (hs : 0 ≤ s ∧ s < 1073741789) (h : w.ownsRow base 3 1 v (k + 1) ((cof s l k).map intV)) : ∃ b cap, v = .slice (some ⟨b, 0, none⟩) (fe s hs l k).length cap ∧ IntsAt w b (fe s hs l k) ∧ b < w.heap.size := by
  rcases h.2 with ⟨_, e⟩ | ⟨g, cap, cur, e, h1, hh, _⟩
  · omega
  · refine ⟨g, cap, by rw [fe_len]; exact e, fun j hj => ?_, (Array.getElem?_eq_some_iff.1 hh).1⟩
    have hj' : j < (cof s l k).length := by rw [← fe_val s hs l k, List.length_map]; exact hj
    have e2 : (cof s l k)[j] = ((fe s hs l k).map (·.1))[j]'(by rw [List.length_map]; exact hj) := by simp only [fe_val]
    rw [List.getElem_map] at e2
    have := h.cells (g := g) (by rw [e]; rfl) j (intV (cof s l k)[j]) (by rw [List.getElem?_map, List.getElem?_eq_getElem hj']; rfl)
    rw [e2] at this
    simp only [Addr.add] at this
    split at this
    · rename_i e0; subst e0; exact this
    · simpa using this

set_option maxRecDepth 20000 in
set_option maxHeartbeats 1000000 in
theorem iSplit_any (s many need : Int) (a : Option Addr) (len cap : Nat) (l : List UInt8) (w : World) (hlen : len ≤ 1048576) (hs : SlB w w.heap.size a len l) (hM : Mults w) :
    Calls Tryd.prog 5 #[.int .i64 s, .int .i64 many, .int .i64 need, .slice a len cap] w fun e w' => (∃ v r, e = .returned v ∧ SplIs s many need l r ∧ w'.ownsRow w.heap.size 28 2 v r.length (SharesV r)) ∧ Below w.heap.size w w' := by
  obtain ⟨i0, hi, hz0, hz1, hz2⟩ := info_parts info_Share
  have HS := hide hs
  have HM := hide hM
  have hll := hide hs.1
  clear hs hM
  by_cases c1 : s < 0 ∨ 1073741789 ≤ s ∨ 20000 < len
  · have no : Hid (¬ SplC s many need l) := hide (fun h => by have := unhide hll; have := h.1; have := h.2.1; have := h.2.2.1; omega)
    rcases c1 with c1 | c1 | c1
    · go_enter Tryd.func5, Tryd.ntmps5
      go_wp2_with fail
      go_ret
      first | exact ⟨⟨_, [], rfl, .inr ⟨unhide no, rfl⟩, World.ownsRow_nil _ _ _ _⟩, Below.refl _ _⟩ | exact ⟨⟨_, rfl, [], .inr ⟨unhide no, rfl⟩, World.ownsRow_nil _ _ _ _⟩, Below.refl _ _⟩
    · have c0 : ¬ s < 0 := by omega
      go_enter Tryd.func5, Tryd.ntmps5
      go_wp2_with fail
      go_ret
      first | exact ⟨⟨_, [], rfl, .inr ⟨unhide no, rfl⟩, World.ownsRow_nil _ _ _ _⟩, Below.refl _ _⟩ | exact ⟨⟨_, rfl, [], .inr ⟨unhide no, rfl⟩, World.ownsRow_nil _ _ _ _⟩, Below.refl _ _⟩
    · by_cases c0 : s < 0 ∨ 1073741789 ≤ s
      · rcases c0 with c0 | c0
        · go_enter Tryd.func5, Tryd.ntmps5
          go_wp2_with fail
          go_ret
          first | exact ⟨⟨_, [], rfl, .inr ⟨unhide no, rfl⟩, World.ownsRow_nil _ _ _ _⟩, Below.refl _ _⟩ | exact ⟨⟨_, rfl, [], .inr ⟨unhide no, rfl⟩, World.ownsRow_nil _ _ _ _⟩, Below.refl _ _⟩
        · have c2 : ¬ s < 0 := by omega
          go_enter Tryd.func5, Tryd.ntmps5
          go_wp2_with fail
          go_ret
          first | exact ⟨⟨_, [], rfl, .inr ⟨unhide no, rfl⟩, World.ownsRow_nil _ _ _ _⟩, Below.refl _ _⟩ | exact ⟨⟨_, rfl, [], .inr ⟨unhide no, rfl⟩, World.ownsRow_nil _ _ _ _⟩, Below.refl _ _⟩
      · have c2 : ¬ s < 0 := by omega
        have c3 : ¬ 1073741789 ≤ s := by omega
        go_enter Tryd.func5, Tryd.ntmps5
        go_wp2_with fail
        go_ret
        first | exact ⟨⟨_, [], rfl, .inr ⟨unhide no, rfl⟩, World.ownsRow_nil _ _ _ _⟩, Below.refl _ _⟩ | exact ⟨⟨_, rfl, [], .inr ⟨unhide no, rfl⟩, World.ownsRow_nil _ _ _ _⟩, Below.refl _ _⟩
  have s0 : ¬ s < 0 := by omega
  have s1 : ¬ 1073741789 ≤ s := by omega
  have s2 : ¬ 20000 < len := by omega
  by_cases c2 : need < 1 ∨ many < need ∨ 20 < many
  · have no : Hid (¬ SplC s many need l) := hide (fun h => by have := h.2.2.2; omega)
    by_cases d1 : need < 1
    · go_enter Tryd.func5, Tryd.ntmps5
      go_wp2_with fail
      go_ret
      first | exact ⟨⟨_, [], rfl, .inr ⟨unhide no, rfl⟩, World.ownsRow_nil _ _ _ _⟩, Below.refl _ _⟩ | exact ⟨⟨_, rfl, [], .inr ⟨unhide no, rfl⟩, World.ownsRow_nil _ _ _ _⟩, Below.refl _ _⟩
    by_cases d2 : many < need
    · go_enter Tryd.func5, Tryd.ntmps5
      go_wp2_with fail
      go_ret
      first | exact ⟨⟨_, [], rfl, .inr ⟨unhide no, rfl⟩, World.ownsRow_nil _ _ _ _⟩, Below.refl _ _⟩ | exact ⟨⟨_, rfl, [], .inr ⟨unhide no, rfl⟩, World.ownsRow_nil _ _ _ _⟩, Below.refl _ _⟩
    · have d3 : 20 < many := by omega
      go_enter Tryd.func5, Tryd.ntmps5
      go_wp2_with fail
      go_ret
      first | exact ⟨⟨_, [], rfl, .inr ⟨unhide no, rfl⟩, World.ownsRow_nil _ _ _ _⟩, Below.refl _ _⟩ | exact ⟨⟨_, rfl, [], .inr ⟨unhide no, rfl⟩, World.ownsRow_nil _ _ _ _⟩, Below.refl _ _⟩
  have d1 : ¬ need < 1 := by omega
  have d2 : ¬ many < need := by omega
  have d3 : ¬ 20 < many := by omega
  have yes : Hid (SplC s many need l) := hide ⟨by omega, by omega, by rw [← unhide hll]; omega, by omega, by omega, by omega⟩
  obtain ⟨nd, rfl⟩ : ∃ nd : Nat, need = ((nd + 1 : Nat) : Int) := ⟨(need - 1).toNat, by omega⟩
  obtain ⟨mn, rfl⟩ : ∃ mn : Nat, many = (mn : Int) := ⟨many.toNat, by omega⟩
  have hs' : 0 ≤ s ∧ s < 1073741789 := ⟨by omega, by omega⟩
  have q := hide (coefficients_any s (nd + 1) a len cap l w (by omega) (by omega) (by omega) (unhide HS) (unhide HM))
  clear c1 c2 HS HM
  go_enter Tryd.func5, Tryd.ntmps5
  go_wp2_with fail
  refine (unhide q).mono ?_
  rintro e w1 ⟨v1, rfl, ho1, hb1⟩
  obtain ⟨b, cp, rfl, hI, hbl⟩ := own_fe hs' ho1
  have HI := hide hI
  have HB1 := hide hb1
  have HBL := hide hbl
  have FL := hide (fe_len s hs' l nd)
  have FV := hide (fe_val s hs' l nd)
  obtain ⟨zs, hzs⟩ : ∃ zs, fe s hs' l nd = zs := ⟨_, rfl⟩
  rw [hzs] at HI FL FV ⊢
  clear q ho1 hI hb1 hbl hzs
  generalize (decide ((nd : Int) + 1 < 1)) = t1 at *
  go_wp2_with fail
  go_loopw [10, 11] (fun v j w' => ∃ (k : Nat), k ≤ mn ∧ j = .int .i64 ((k : Int) + 1) ∧ Hid (w'.ownsRow w1.heap.size 28 2 v k (SharesV (shs s (nd + 1) l k))) ∧ Hid (Below w1.heap.size w1 w')) (fun _ j _ => mn + 1 - (Go.RowKit.intOf j).toNat)
  case atStart => exact ⟨0, Nat.zero_le _, rfl, hide (World.ownsRow_nil _ _ _ _), hide (Below.refl _ _)⟩
  case round =>
    obtain ⟨k, hk, rfl, ho, hb⟩ := hrel
    by_cases hlt : k < mn
    · have i1 : (k : Int) + 1 ≤ (mn : Int) := by omega
      have EV : Hid (hor 1073741789 ((k : Int) + 1) (zs.map (·.1)) = pev ((k : Int) + 1) (cof s l nd) % 1073741789) := hide (by rw [unhide FV, hor_is])
      have q := hide (valueAt_any b cp zs ((k : Int) + 1) (by rw [unhide FL]; omega) wr (fun j hj => cellB (unhide hb) (unhide HBL) (unhide HI j hj)) (Nat.lt_of_lt_of_le (unhide HBL) (unhide hb).size) (by omega) (by omega))
      rw [unhide EV] at q
      have SN := hide (shs_snoc s (nd + 1) l k)
      simp only [Nat.add_sub_cancel] at SN
      obtain ⟨Y, hY⟩ : ∃ Y, pev ((k : Int) + 1) (cof s l nd) % 1073741789 = Y := ⟨_, rfl⟩
      rw [hY] at q SN
      clear EV hY
      go_wp2_with fail
      refine (unhide q).mono ?_
      rintro e w2 ⟨rfl, hb2⟩
      have O2 := hide (own_kB (unhide ho) hb2)
      have B2 := hide (bTr (unhide hb) hb2)
      clear q hb2 ho hb
      go_wp2_with (at_builtin; refine wpList_append_own _ rfl _ _ 25 rfl w1.heap.size 28 i0 _ 2 16 Tryd.underlying25 hi hz0 hz1 hz2 rfl (by decide) _ _ _ rfl ((unhide O2).alloc _) ⟨_, 0, none⟩ 1 1 [.int .i64 ((k : Int) + 1), .int .i64 Y] rfl rfl (cell_two_new _ _ _ _) (fun x hx => by simp at hx; rcases hx with rfl | rfl <;> rfl) (by unfold maxLen; omega) (by omega) (by have := (unhide B2).size; simp; omega) ?_; intro v' w4 hown1 hgrow1 _)
      refine ⟨⟨k + 1, by omega, by go_num, hide ?_, hide ((bAl (unhide B2) _).grown hgrow1 (by have := (unhide B2).size; simp; omega) (fun j hj => ?_))⟩, by simp [Go.RowKit.intOf]; omega⟩
      · rw [unhide SN, SharesV_snoc]
        exact hown1
      · exact ((unhide O2).lt j hj).1
    · obtain rfl : mn = k := by omega
      have i1 : ¬ (mn : Int) + 1 ≤ (mn : Int) := by omega
      go_wp2_with fail
      go_ret
      refine ⟨⟨_, rfl, shs s (nd + 1) l mn, .inl ⟨unhide yes, by simp⟩, by rw [shs_len]; exact own_monoE (unhide ho) (unhide HB1).size⟩, bTr (unhide HB1) (unhide hb)⟩
end Go.Proofs.YtoakdagncfaplaaDoor.D
