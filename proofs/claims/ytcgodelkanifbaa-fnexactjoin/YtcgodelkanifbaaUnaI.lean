/- strings.IndexByte at the letters; impl.guessData, Unarmor. -/
import Derived.Test.YtcgodelkanifbaaArmJ
import Derived.Test.YtcgodelkanifbaaUnaP
import Derived.Laws.Externs
import Derived.Laws.IdiomStrings
namespace Go.Proofs.Ytcgodelkanifbaa
open Go.RowKit

/-- '[]byte(s)': a new row of the call's own, its cells the bytes of s. -/
theorem conv_bytes (s : ByteArray) (w : World) : ∃ cap w1, (convert 9 22 (.string s)).run Try.prog w = .ok (.slice (some ⟨w.heap.size, 0, none⟩) s.size cap) w1 ∧ Below w.heap.size w w1 ∧ w.heap.size < w1.heap.size ∧
    ∀ j (h : j < s.size), w1.cell? ⟨w.heap.size, j, none⟩ = some (.int .u8 (s[j].toNat : Int)) := by
  refine ⟨_, _, run_bytes_of_string (P := Try.prog) w 9 22 5 s Try.underlying9 Try.underlying22 Try.underlying5, ((Below.refl _ _).drew).alloc (Nat.le_refl _) _, by simp, ?_⟩
  intro j h
  have h' : w.drew.heap.size = w.heap.size := rfl
  rw [← h', World.cell?_alloc_mark]
  unfold bytesRow
  rw [Array.getElem?_append_left (by simpa using h)]
  have h2 : j < s.data.size := h
  simp only [Array.getElem?_map, Array.getElem?_eq_getElem h2, Option.map_some]
  rfl

theorem indexByte_any (c : UInt8) (w : World) :
    Calls Try.prog 50 #[.string letS, .int .u8 (c.toNat : Int)] w fun e w' => e = .returned (.int .i64 (Lib.indexByte letL c)) ∧ w = w' := by
  have hcc : ((c.toNat : Int)).toNat.toUInt8 = c := by simp
  go_enter Try.func50, Try.ntmps50
  go_wp2_with fail
  rw [run_callFunc_extern Try.func52 (by kernel_rfl) (by kernel_rfl) (by kernel_rfl) (e := Extern.BytealgIndexByte.indexByte) (by kernel_rfl), Lib.run_indexByteString]
  simp only [Result.andThen]
  rw [Oper.upon_value]
  rw [hcc]
  go_wp2_with fail
  go_ret
  exact ⟨rfl, rfl⟩
theorem sIndexByte_any (c : UInt8) (w : World) :
    Calls Try.prog 45 #[.string ⟨#[48, 49, 50, 51, 52, 53, 54, 55, 56, 57, 97, 98, 99, 100, 101, 102, 103, 104, 105, 106, 107, 108, 109, 110, 111, 112, 113, 114, 115, 116, 117, 118]⟩, .int .u8 (c.toNat : Int)] w fun e w' => e = .returned (.int .i64 (Lib.indexByte letL c)) ∧ w = w' := by
  show Calls Try.prog 45 #[.string letS, .int .u8 (c.toNat : Int)] w _
  go_enter Try.func45, Try.ntmps45
  go_wp2_with fail
  refine (indexByte_any c _).mono ?_
  rintro e w' ⟨rfl, rfl⟩
  go_wp2_with fail
  go_ret
  exact ⟨rfl, rfl⟩

theorem and31 (r : Int) (h0 : -1 ≤ r) (h1 : r < 32) : ∃ v : Nat, v < 32 ∧ bits .and .i64 r 31 = (v : Int) ∧ (0 ≤ r → (v : Int) = r) := by
  by_cases h : r = -1
  · subst h; exact ⟨31, by decide, by decide, by omega⟩
  · have e : bits .and .i64 r 31 = r % 32 := bits_mask .i64 63 (by decide) wraps_i64 5 (by decide) r (by omega) (by omega)
    exact ⟨r.toNat, by omega, by rw [e]; omega, by omega⟩
/-- 'x | v' where x has no bit of v's five. -/
theorem or5 (x : Int) (v : Nat) (hv : v < 32) (hx : x % 32 = 0) (h0 : -9223372036854775808 ≤ x) (h1 : x < 9223372036854775808) : bits .or .i64 x (v : Int) = x + v := by
  obtain ⟨u, hu⟩ := Int.eq_ofNat_of_zero_le (Int.emod_nonneg x (show (18446744073709551616 : Int) ≠ 0 by decide))
  have hul : u < 18446744073709551616 := by have := Int.emod_lt_of_pos x (show (0 : Int) < 18446744073709551616 by decide); omega
  have hu32 : u % 32 = 0 := by omega
  have hq : u = 2 ^ 5 * (u / 32) := by omega
  have e1 : (BitVec.ofInt 64 x).toNat = u := by
    rw [BitVec.toNat_ofInt]
    have : x % ((2 ^ 64 : Nat) : Int) = u := by exact hu
    rw [this]; rfl
  have e2 : (BitVec.ofInt 64 (v : Int)).toNat = v := by rw [BitVec.ofInt_natCast, BitVec.toNat_ofNat]; exact Nat.mod_eq_of_lt (by omega)
  have e3 : u ||| v = u + v := by
    conv => lhs; rw [hq]
    rw [← Nat.two_pow_add_eq_or_of_lt (show v < 2 ^ 5 by omega) (u / 32)]
    omega
  show IntKind.i64.wrap ((BitVec.ofInt 64 x ||| BitVec.ofInt 64 (v : Int)).toNat : Int) = _
  rw [BitVec.toNat_or, e1, e2, e3, IntKind.wrap_i64]
  omega

/-- What is guessed of a text: the data whose armour it is, where there are such. -/
def Guess (t D : List UInt8) : Prop := ∀ d, t = arm d → D = d

set_option maxHeartbeats 2000000 in
theorem guess_any (s : ByteArray) (w : World) (hs : s.size ≤ 1048576) :
    Calls Try.prog 30 #[.string s] w fun e w' => ∃ v D, e = .returned v ∧ D.length = 5 * s.size / 8 ∧ Guess s.data.toList D ∧ w'.ownsRow w.heap.size 5 1 v D.length (D.map byteV) ∧ Below w.heap.size w w' := by
  obtain ⟨i0, hi, hz0, hz1, hz2⟩ := info_parts info_u8
  obtain ⟨cap, w1, hrun, hb1, hsz1, hcell⟩ := conv_bytes s w
  have HB1 := hide hb1
  have HC := hide hcell
  clear hb1 hcell
  go_enter Try.func30, Try.ntmps30
  go_wp2_with fail
  clear hrun
  go_loopw [3, 4, 5, 11] (fun v b h i w' => ∃ (k : Nat) (b' : Int) (D : List UInt8) (h' : Nat), k ≤ s.size ∧ i = .int .i64 k ∧ b = .int .i64 b' ∧ h = .int .i64 h' ∧ h' < 8 ∧ Hid (5 * k % 8 = h') ∧ -9223372036854775808 ≤ b' ∧ b' < 9223372036854775808 ∧ Hid (D.length = 5 * k / 8) ∧ Hid (∀ d, s.data.toList = arm d → D = d.take (5 * k / 8) ∧ b' % 2 ^ (5 * k % 8) = (pre d (8 * (5 * k / 8)) (5 * k % 8) : Nat)) ∧ Hid (w'.ownsRow w1.heap.size 5 1 v D.length (D.map byteV)) ∧ Hid (Below w1.heap.size w1 w')) (fun _ _ _ i _ => s.size - (intOf i).toNat)
  case atStart => exact ⟨0, 0, [], 0, Nat.zero_le _, rfl, rfl, rfl, by omega, hide rfl, by omega, by omega, hide rfl, hide (fun d _ => ⟨rfl, rfl⟩), hide (World.ownsRow_nil _ _ _ _), hide (Below.refl _ _)⟩
  case round =>
    obtain ⟨k, b', D, h', hk, rfl, rfl, rfl, h8, hh', hb0, hb1, hD, hinv, hown, hb⟩ := hrel
    by_cases hlt : k < s.size
    · have ck : wr.cell? ⟨w.heap.size, k, none⟩ = some (.int .u8 (s[k].toNat : Int)) := cellC (unhide hb) hsz1 (unhide HC k hlt)
      obtain ⟨c, hc⟩ : ∃ c, s[k] = c := ⟨_, rfl⟩
      rw [hc] at ck
      obtain ⟨v, hv32, hand, hvv⟩ := and31 _ (idx_let c).1 (idx_let c).2
      have HV := hide (show ∀ d, s.data.toList = arm d → v = five d (5 * k) by
        intro d hd
        have hkl : k < (arm d).length := by rw [← hd]; simpa using hlt
        have e1 : (arm d)[k] = c := by
          have : (s.data.toList)[k]'(by simpa using hlt) = c := hc
          rw [← this]; simp only [hd]
        rw [arm_get] at e1
        have e2 := letOf_idx _ (five_lt d (5 * k))
        rw [e1] at e2
        have := hvv (by rw [e2]; omega)
        omega)
      clear hvv hc
      generalize hr : Lib.indexByte letL c = r at hand
      have hr' := hide hr
      clear hr
      have hw0 : -9223372036854775808 ≤ wrap64 (b' * 32) ∧ wrap64 (b' * 32) < 9223372036854775808 ∧ wrap64 (b' * 32) % 32 = 0 ∧ wrap64 (b' * 32) % 4096 = (b' * 32) % 4096 := by unfold wrap64; omega
      have hor0 := or5 (wrap64 (b' * 32)) v hv32 hw0.2.2.1 hw0.1 hw0.2.1
      obtain ⟨B, hB⟩ : ∃ B, wrap64 (b' * 32) + (v : Int) = B := ⟨_, rfl⟩
      have hBm : Hid (B % 4096 = (b' * 32 + (v : Int)) % 4096) := hide (by omega)
      have hBb : -9223372036854775808 ≤ B ∧ B < 9223372036854775808 := by omega
      have hor : bits .or .i64 (wrap64 (b' * 32)) (v : Int) = B := by rw [hor0, hB]
      clear hor0 hw0 hB
      by_cases hh : h' < 3
      · have I2 := hide (show ∀ d, s.data.toList = arm d → D = d.take (5 * (k + 1) / 8) ∧ B % 2 ^ (5 * (k + 1) % 8) = (pre d (8 * (5 * (k + 1) / 8)) (5 * (k + 1) % 8) : Nat) by
          intro d hd
          have eh := unhide hh'
          obtain ⟨e1, e2⟩ := unhide hinv d hd
          rw [show 5 * (k + 1) / 8 = 5 * k / 8 by omega, show 5 * (k + 1) % 8 = 5 * k % 8 + 5 by omega]
          exact ⟨e1, una_few d k b' B (by omega) e2 (by rw [unhide hBm, unhide HV d hd])⟩)
        have D2 := hide (show D.length = 5 * (k + 1) / 8 by have := unhide hD; have := unhide hh'; omega)
        have H2 := hide (show 5 * (k + 1) % 8 = h' + 5 by have := unhide hh'; omega)
        go_wp2_with fail
        refine (sIndexByte_any c _).mono ?_
        rintro e w' ⟨rfl, rfl⟩
        rw [unhide hr']
        go_wp2_with fail
        exact ⟨⟨k + 1, B, D, h' + 5, by omega, by go_num, rfl, by go_num, by omega, H2, hBb.1, hBb.2, D2, I2, hown, hb⟩, by simp [intOf]; omega⟩
      · obtain ⟨c', hx⟩ : ∃ c' : UInt8, B / 2 ^ (h' - 3) % 256 = (c'.toNat : Int) := by
          refine ⟨UInt8.ofNat (B / 2 ^ (h' - 3) % 256).toNat, ?_⟩
          have h0 := Int.emod_nonneg (B / 2 ^ (h' - 3)) (show (256 : Int) ≠ 0 by decide)
          have h1 := Int.emod_lt_of_pos (B / 2 ^ (h' - 3)) (show (0 : Int) < 256 by decide)
          generalize B / 2 ^ (h' - 3) % 256 = z at h0 h1
          simp only [UInt8.toNat_ofNat']
          omega
        have I2 := hide (show ∀ d, s.data.toList = arm d → D ++ [c'] = d.take (5 * (k + 1) / 8) ∧ B % 2 ^ (5 * (k + 1) % 8) = (pre d (8 * (5 * (k + 1) / 8)) (5 * (k + 1) % 8) : Nat) by
          intro d hd
          have eh := unhide hh'
          obtain ⟨e1, e2⟩ := unhide hinv d hd
          obtain ⟨e3, e4⟩ := una_whole d k b' B (by omega) e2 (by rw [unhide hBm, unhide HV d hd])
          rw [show 5 * (k + 1) / 8 = 5 * k / 8 + 1 by omega, show 5 * (k + 1) % 8 = 5 * k % 8 - 3 by omega]
          refine ⟨?_, e4⟩
          have hn : s.size = many d.length := by rw [← arm_len, ← hd]; simp
          have hq : 5 * k / 8 < d.length := by have := many_back d.length; omega
          rw [List.take_succ_eq_append_getElem hq, e1]
          congr 2
          rw [byte8 d _ hq, eh, hx] at e3
          exact UInt8.toNat_inj.1 (by omega))
        have D2 := hide (show (D ++ [c']).length = 5 * (k + 1) / 8 by have := unhide hD; have := unhide hh'; simp; omega)
        have hDl : D.length ≤ 1048576 := by have := unhide hD; omega
        have H2 := hide (show 5 * (k + 1) % 8 = h' - 3 by have := unhide hh'; omega)
        have hsz2 := (unhide hb).size
        have HX := hide hx
        go_wp2_with fail
        refine (sIndexByte_any c _).mono ?_
        rintro e w' ⟨rfl, rfl⟩
        rw [unhide hr']
        go_wp2_with (at_builtin; refine wpList_append_own _ rfl _ _ 22 rfl w1.heap.size 5 i0 (.int .u8 0) 1 1 Try.underlying22 hi hz0 hz1 hz2 rfl (by decide) _ _ _ rfl ((unhide hown).alloc _) ⟨_, 0, none⟩ 1 1 [byteV c'] rfl rfl (cell_one_new _ _ _) (fun x hx => by simp at hx; subst hx; rfl) (by unfold maxLen; omega) (by omega) (by simp; omega) ?_; intro v' w3 hown3 hgrow3 _)
        exact ⟨⟨k + 1, B, D ++ [c'], h' - 3, by omega, by go_num, rfl, by simp only [Value.int.injEq, true_and]; omega, by omega, H2, hBb.1, hBb.2, D2, I2, hide (own_snocU hown3), hide ((bAl (unhide hb) _).grown hgrow3 (by simp; omega) (fun j hj => ((unhide hown).lt j hj).1))⟩, by simp [intOf]; omega⟩
    · have ek : k = s.size := by omega
      subst ek
      have G := hide (show Guess s.data.toList D by
        intro d hd
        obtain ⟨e1, _⟩ := unhide hinv d hd
        have hn : s.size = many d.length := by rw [← arm_len, ← hd]; simp
        rw [e1, hn, many_back, List.take_length])
      go_wp2_with fail
      go_ret
      refine ⟨_, D, rfl, unhide hD, unhide G, ?_, bTr (unhide HB1) (unhide hb)⟩
      exact ⟨(unhide hown).1, (unhide hown).2.imp_right fun ⟨g, cp, cur, h1, h2, h3⟩ => ⟨g, cp, cur, h1, by omega, h3⟩⟩
end Go.Proofs.Ytcgodelkanifbaa
