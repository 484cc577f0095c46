/- WValI, WValJ, one behind the other. -/
import Derived.Test.YthemcakenammdaaGreatDoorJ18
import Derived.Lib.Bytealg
import Derived.Laws.Externs
/- WValI, ported from seat 1a. -/
namespace Go.Proofs.YthemcakenammdaaGreatDoor.V
open Go.RowKit

theorem AtomT.iGood (a : AtomT) (h : a.Ok) (w : World) : Calls Tryz.prog 66 #[.agg #[.int .i64 a.x, .int .i64 a.n, .string a.t, .string a.y]] w fun e w' => e = .returned (.bool a.good) ∧ Below w.heap.size w w' :=
  iGoodAtom_any a.x a.n a.t a.y w h.n9 h.t9 h.y9
theorem AtomT.iCmp (a b : AtomT) (h : a.Ok) (h' : b.Ok) (g : a.good = true) (g' : b.good = true) (w : World) :
    Calls Tryz.prog 89 #[.agg #[.int .i64 a.x, .int .i64 a.n, .string a.t, .string a.y], .agg #[.int .i64 b.x, .int .i64 b.n, .string b.t, .string b.y]] w fun e w' => e = .returned (.int .i64 (a.cmp b)) ∧ Below w.heap.size w w' := by
  have := iCompare_any a.x a.n a.t a.y b.x b.n b.t b.y w h.n9 h.t9 h.y9 h'.n9 h'.t9 h'.y9
  unfold cmpG at this
  rw [if_pos ⟨g, g'⟩] at this
  exact this

set_option maxHeartbeats 400000 in
theorem allGood_any (a : Option Addr) (len cap : Nat) (l : List AtomT) (w : World) (hl : len ≤ maxLen) (hs : SlA w a len l) (hi : ∀ q ∈ l, AtomT.Ok q) :
    Calls Tryz.prog 102 #[.slice a len cap] w fun e w' => RetB e (AllA l l.length) ∧ Below w.heap.size w w' := by
  unfold maxLen at hl
  have HS := hide hs
  clear hs
  go_enter Tryz.func102, Tryz.ntmps102
  go_wp2
  go_loopw [7] (fun i w' => ∃ k : Nat, k ≤ len ∧ i = .int .i64 k ∧ Hid (Below w.heap.size w w') ∧ Hid (AllA l k)) (fun i _ => len - (intOf i).toNat)
  case atStart => exact ⟨0, Nat.zero_le _, rfl, hide (Below.refl _ _), hide (fun i _ h => absurd h (Nat.not_lt_zero _))⟩
  case round =>
    obtain ⟨k, hk, rfl, hb, hall⟩ := hrel
    by_cases hlt : k < len
    · have hk' : k < l.length := by rw [← (unhide HS).1]; exact hlt
      obtain ⟨b, off, rfl, hrow⟩ := ((unhide HS).keep (unhide hb)).at hlt
      obtain ⟨c0, c1, c2, c3⟩ := hrow.c k hk'
      have hok := hi _ (List.getElem_mem hk')
      have qk := hide (fun w => AtomT.iGood l[k] hok w)
      have stepA := hide (fun g => (unhide hall).step hk' g)
      have noA : Hid (l[k].good = false → ¬ AllA l l.length) := hide (fun g h => by have := h k hk' hk'; rw [g] at this; cases this)
      clear hrow hok
      generalize l[k] = P at *
      cases g : P.good
      · rw [g] at qk
        replace noA := hide (unhide noA g)
        clear g
        go_wp2_with (go_at_call 66; refine (unhide qk _).mono ?_; rintro e w5 ⟨rfl, hb5⟩)
        go_ret
        exact ⟨retB (b := false) ⟨fun h => (by cases h), fun h => absurd h (unhide noA)⟩, bTr (bAl (unhide hb) _) hb5⟩
      · rw [g] at qk
        replace stepA := hide (unhide stepA g)
        clear g
        go_wp2_with (go_at_call 66; refine (unhide qk _).mono ?_; rintro e w5 ⟨rfl, hb5⟩)
        exact ⟨⟨k + 1, by omega, by go_num, hide (bTr (bAl (unhide hb) _) hb5), stepA⟩, by simp [intOf]; omega⟩
    · have e : k = l.length := by rw [← (unhide HS).1]; omega
      have hA : Hid (AllA l l.length) := hide (by rw [← e]; exact unhide hall)
      clear e
      go_wp2_with fail
      go_ret
      exact ⟨retB (b := true) ⟨fun _ => unhide hA, fun _ => rfl⟩, unhide hb⟩

theorem goodItems_any (a : Option Addr) (len cap : Nat) (l : List AtomT) (w : World) (hl : len ≤ maxLen) (hs : SlA w a len l) (hi : ∀ q ∈ l, AtomT.Ok q) :
    Calls Tryz.prog 87 #[.slice a len cap] w fun e w' => RetB e (l.length ≤ 50 ∧ AllA l l.length) ∧ Below w.heap.size w w' := by
  have qa := hide (allGood_any a len cap l w hl hs hi)
  have hlen := hide hs.1
  clear hs hi
  by_cases h : (len : Int) ≤ 50
  · go_enter Tryz.func87, Tryz.ntmps87
    go_wp2_with fail
    refine (unhide qa).mono ?_
    rintro e w5 ⟨⟨b, rfl, hb⟩, hb5⟩
    have HB := hide hb
    clear hb
    go_wp2_with fail
    go_ret
    refine ⟨retB ?_, hb5⟩
    rw [unhide HB, ← unhide hlen]
    exact ⟨fun h' => ⟨by omega, h'⟩, fun h' => h'.2⟩
  · have d : decide ((len : Int) ≤ 50) = false := by simpa using h
    go_enter Tryz.func87, Tryz.ntmps87
    go_wp2_with fail
    go_ret
    refine ⟨retB (b := false) ?_, Below.refl _ _⟩
    rw [← unhide hlen]
    exact ⟨fun h' => (by cases h'), fun h' => absurd h'.1 (by omega)⟩
set_option maxHeartbeats 1000000 in
theorem risingA_any (a : Option Addr) (len cap : Nat) (l : List AtomT) (w : World) (hl : len ≤ 50) (hs : SlA w a len l) (hi : ∀ q ∈ l, AtomT.Ok q) (hg : AllA l l.length) :
    Calls Tryz.prog 88 #[.slice a len cap, .func (.func 89) #[] #[]] w fun e w' => RetB e (RisA l l.length) ∧ Below w.heap.size w w' := by
  have HS := hide hs
  have HG := hide hg
  clear hs hg
  go_enter Tryz.func88, Tryz.ntmps88
  go_wp2
  go_loopw [5] (fun i w' => ∃ k : Nat, 1 ≤ k ∧ (k ≤ len ∨ k = 1) ∧ i = .int .i64 k ∧ Hid (Below w.heap.size w w') ∧ Hid (RisA l k)) (fun i _ => len - (intOf i).toNat)
  case atStart => exact ⟨1, Nat.le_refl _, .inr rfl, rfl, hide (Below.refl _ _), hide (fun i _ h h' => absurd h (by omega))⟩
  case round =>
    obtain ⟨k, hk1, hk, rfl, hb, hris⟩ := hrel
    by_cases hlt : k < len
    · obtain ⟨j, rfl⟩ : ∃ j, k = j + 1 := ⟨k - 1, by omega⟩
      have hk' : j + 1 < l.length := by rw [← (unhide HS).1]; exact hlt
      obtain ⟨b, off, rfl, hrow⟩ := ((unhide HS).keep (unhide hb)).at hlt
      have pk := hrow.c (j + 1) hk'
      have pj := hrow.c j (by omega)
      have zk := hrow.z
      have qc := hide (fun w => AtomT.iCmp l[j] l[j + 1] (hi _ (List.getElem_mem _)) (hi _ (List.getElem_mem _)) (unhide HG j (by omega) (by omega)) (unhide HG (j + 1) hk' hk') w)
      have stepR := hide (fun g : l[j].cmp l[j + 1] < 0 => (unhide hris).step hk' (fun _ => g))
      have noR := hide (fun (g : ¬ l[j].cmp l[j + 1] < 0) (h : RisA l l.length) => g (h (j + 1) hk' (by omega) hk'))
      clear hrow
      generalize l[j + 1] = P at *
      generalize l[j] = Q at *
      have ne : Nonempty (Kept wr) := ⟨⟨wr, Below.refl _ _⟩⟩
      have x0 := kept_cell zk pk.c0
      have x1 := kept_cell zk pk.c1
      have x2 := kept_cell zk pk.c2
      have x3 := kept_cell zk pk.c3
      have t0 := kept_cell zk pj.c0
      have t1 := kept_cell zk pj.c1
      have t2 := kept_cell zk pj.c2
      have t3 := kept_cell zk pj.c3
      have ej : IntKind.i64.wrap ((j : Int) + 1 - 1) = (j : Int) := by rw [IntKind.wrap_i64]; omega
      have i0 : (0 : Int) ≤ (j : Int) := by omega
      have i1 : (j : Int) < (len : Int) := by omega
      have i2 : (j : Int) + 1 < (len : Int) := by omega
      clear pk pj
      by_cases hc : Q.cmp P < 0
      · have dc : decide (0 ≤ Q.cmp P) = false := by simp; omega
        replace stepR := hide (unhide stepR hc)
        clear hc
        go_wp2_with fail
        refine wp_region_kept (by kernel_rfl) (by kernel_rfl) ?_
        repeat (first
          | go_big_quiet_step ((go_at_call 89; exact kept_call (unhide qc _)))
          | quiet_step ((go_at_call 89; exact kept_call (unhide qc _))))
        refine wpQuiet_nil ?_
        rintro _ ⟨q, rfl⟩
        go_wp2_with fail
        exact ⟨⟨j + 1 + 1, by omega, by omega, by go_num, hide (bTr (unhide hb) q.h), stepR⟩, by simp [intOf]; omega⟩
      · have dc : decide (0 ≤ Q.cmp P) = true := by simp; omega
        replace noR := hide (unhide noR hc)
        clear hc
        go_wp2_with fail
        refine wp_region_kept (by kernel_rfl) (by kernel_rfl) ?_
        repeat (first
          | go_big_quiet_step ((go_at_call 89; exact kept_call (unhide qc _)))
          | quiet_step ((go_at_call 89; exact kept_call (unhide qc _))))
        refine wpQuiet_nil ?_
        rintro _ ⟨q, rfl⟩
        go_wp2_with fail
        go_ret
        exact ⟨retB (b := false) ⟨fun h => (by cases h), fun h => absurd h (unhide noR)⟩, bTr (unhide hb) q.h⟩
    · have hR : Hid (RisA l l.length) := hide (fun i h h0 h1 => by
        have hl' := (unhide HS).1
        exact unhide hris i h h0 (by omega))
      go_wp2_with fail
      go_ret
      exact ⟨retB (b := true) ⟨fun _ => unhide hR, fun _ => rfl⟩, unhide hb⟩

theorem compareBytes_eq : ∀ a b : List UInt8, Lib.compareBytes a b = cmpT a b
  | [], [] => rfl
  | [], _ :: _ => rfl
  | _ :: _, [] => rfl
  | a :: x, b :: y => by
    unfold Lib.compareBytes cmpT
    by_cases e : a = b
    · subst e
      rw [if_neg (by simp), if_neg (by simp), if_pos rfl]
      exact compareBytes_eq x y
    · rw [if_neg e]
      unfold cmpN
      by_cases l : a < b
      · have l' : (a.toNat : Int) < (b.toNat : Int) := by have := UInt8.lt_iff_toNat_lt.1 l; omega
        rw [if_pos l, if_pos l']
      · have l' : ¬ (a.toNat : Int) < (b.toNat : Int) := fun h => l (UInt8.lt_iff_toNat_lt.2 (by omega))
        have l2 : (b.toNat : Int) < (a.toNat : Int) := by
          have : ¬ (a.toNat : Int) = (b.toNat : Int) := fun h => e (u8_eq h)
          omega
        rw [if_neg l, if_pos (UInt8.lt_iff_toNat_lt.2 (by omega)), if_neg l', if_pos l2]

theorem cmpstring_run (a b : ByteArray) (w : World) : (callFunc 117 #[.string a, .string b]).run Tryz.prog w = .ok (.value (.int .i64 (cmpT a.data.toList b.data.toList))) w := by
  rw [run_callFunc_extern (e := Extern.BytealgCompare.compare) Tryz.func117 (by kernel_rfl) (by kernel_rfl) (by kernel_rfl) (by kernel_rfl), Lib.run_compareString, compareBytes_eq]
  rfl

theorem stringsCompare_any (a b : ByteArray) (w : World) : Calls Tryz.prog 91 #[.string a, .string b] w fun e w' => e = .returned (.int .i64 (cmpT a.data.toList b.data.toList)) ∧ w = w' := by
  have hr := cmpstring_run a b w
  go_enter Tryz.func91, Tryz.ntmps91
  go_wp2
  go_ret
  exact ⟨rfl, rfl⟩
end Go.Proofs.YthemcakenammdaaGreatDoor.V
/- WValJ, ported from seat 1a. -/
namespace Go.Proofs.YthemcakenammdaaGreatDoor.V
open Go.RowKit

set_option maxHeartbeats 1000000 in
theorem risingN_any (a : Option Addr) (len cap : Nat) (l : List ByteArray) (w : World) (hl : len ≤ 50) (hs : SlS w a len l) :
    Calls Tryz.prog 90 #[.slice a len cap, .func (.func 91) #[] #[]] w fun e w' => RetB e (RisN l l.length) ∧ Below w.heap.size w w' := by
  have HS := hide hs
  clear hs
  go_enter Tryz.func90, Tryz.ntmps90
  go_wp2
  go_loopw [5] (fun i w' => ∃ k : Nat, 1 ≤ k ∧ (k ≤ len ∨ k = 1) ∧ i = .int .i64 k ∧ Hid (Below w.heap.size w w') ∧ Hid (RisN l k)) (fun i _ => len - (intOf i).toNat)
  case atStart => exact ⟨1, Nat.le_refl _, .inr rfl, rfl, hide (Below.refl _ _), hide (fun i _ h h' => absurd h (by omega))⟩
  case round =>
    obtain ⟨k, hk1, hk, rfl, hb, hris⟩ := hrel
    by_cases hlt : k < len
    · obtain ⟨j, rfl⟩ : ∃ j, k = j + 1 := ⟨k - 1, by omega⟩
      have hk' : j + 1 < l.length := by rw [← (unhide HS).1]; exact hlt
      obtain ⟨b, off, rfl, hrow⟩ := ((unhide HS).keep (unhide hb)).at hlt
      have pk := hrow.c (j + 1) hk'
      have pj := hrow.c j (by omega)
      have zk := hrow.z
      have qc := hide (fun w => stringsCompare_any l[j] l[j + 1] w)
      have stepR := hide (fun g : cmpT l[j].data.toList l[j + 1].data.toList < 0 => (unhide hris).step hk' (fun _ => g))
      have noR := hide (fun (g : ¬ cmpT l[j].data.toList l[j + 1].data.toList < 0) (h : RisN l l.length) => g (h (j + 1) hk' (by omega) hk'))
      clear hrow
      generalize l[j + 1] = P at *
      generalize l[j] = Q at *
      have ne : Nonempty (Kept wr) := ⟨⟨wr, Below.refl _ _⟩⟩
      have x0 := kept_cell zk pk
      have t0 := kept_cell zk pj
      have ej : IntKind.i64.wrap ((j : Int) + 1 - 1) = (j : Int) := by rw [IntKind.wrap_i64]; omega
      have i0 : (0 : Int) ≤ (j : Int) := by omega
      have i1 : (j : Int) < (len : Int) := by omega
      have i2 : (j : Int) + 1 < (len : Int) := by omega
      clear pk pj
      by_cases hc : cmpT Q.data.toList P.data.toList < 0
      · have dc : decide (0 ≤ cmpT Q.data.toList P.data.toList) = false := by simp; omega
        replace stepR := hide (unhide stepR hc)
        clear hc
        go_wp2_with fail
        refine wp_region_kept (by kernel_rfl) (by kernel_rfl) ?_
        repeat (first
          | go_big_quiet_step ((go_at_call 91; exact kept_same (unhide qc _)))
          | quiet_step ((go_at_call 91; exact kept_same (unhide qc _))))
        refine wpQuiet_nil ?_
        rintro _ ⟨q, rfl⟩
        go_wp2_with fail
        exact ⟨⟨j + 1 + 1, by omega, by omega, by go_num, hide (bTr (unhide hb) q.h), stepR⟩, by simp [intOf]; omega⟩
      · have dc : decide (0 ≤ cmpT Q.data.toList P.data.toList) = true := by simp; omega
        replace noR := hide (unhide noR hc)
        clear hc
        go_wp2_with fail
        refine wp_region_kept (by kernel_rfl) (by kernel_rfl) ?_
        repeat (first
          | go_big_quiet_step ((go_at_call 91; exact kept_same (unhide qc _)))
          | quiet_step ((go_at_call 91; exact kept_same (unhide qc _))))
        refine wpQuiet_nil ?_
        rintro _ ⟨q, rfl⟩
        go_wp2_with fail
        go_ret
        exact ⟨retB (b := false) ⟨fun h => (by cases h), fun h => absurd h (unhide noR)⟩, bTr (unhide hb) q.h⟩
    · have hR : Hid (RisN l l.length) := hide (fun i h h0 h1 => by
        have hl' := (unhide HS).1
        exact unhide hris i h h0 (by omega))
      go_wp2_with fail
      go_ret
      exact ⟨retB (b := true) ⟨fun _ => unhide hR, fun _ => rfl⟩, unhide hb⟩

set_option maxHeartbeats 400000 in
theorem goodSet_any (a : Option Addr) (len cap : Nat) (l : List AtomT) (w : World) (hl : len ≤ maxLen) (hs : SlA w a len l) (hi : ∀ q ∈ l, AtomT.Ok q) :
    Calls Tryz.prog 67 #[.slice a len cap] w fun e w' => RetB e (l.length ≤ 50 ∧ AllA l l.length ∧ RisA l l.length) ∧ Below w.heap.size w w' := by
  have qa := hide (goodItems_any a len cap l w hl hs hi)
  have HS := hide hs
  by_cases h : l.length ≤ 50 ∧ AllA l l.length
  · have qr := hide (fun w (hs : SlA w a len l) => risingA_any a len cap l w (by rw [hs.1]; exact h.1) hs hi h.2)
    have H := hide h
    clear hs h hi
    go_enter Tryz.func67, Tryz.ntmps67
    go_wp2_with fail
    refine (unhide qa).mono ?_
    rintro e w5 ⟨⟨b, rfl, hb⟩, hb5⟩
    obtain rfl : b = true := hb.2 (unhide H)
    clear hb qa
    go_wp2_with fail
    refine (unhide qr _ ((unhide HS).keep hb5)).mono ?_
    rintro e w6 ⟨⟨b, rfl, hb⟩, hb6⟩
    have HB := hide hb
    clear hb
    go_wp2_with fail
    go_ret
    exact ⟨retB (by rw [unhide HB]; exact ⟨fun h => ⟨(unhide H).1, (unhide H).2, h⟩, fun h => h.2.2⟩), bTr hb5 hb6⟩
  · have H := hide h
    clear hs h hi
    go_enter Tryz.func67, Tryz.ntmps67
    go_wp2_with fail
    refine (unhide qa).mono ?_
    rintro e w5 ⟨⟨b, rfl, hb⟩, hb5⟩
    obtain rfl : b = false := by
      cases b
      · rfl
      · exact absurd (hb.1 rfl) (unhide H)
    clear hb qa
    go_wp2_with fail
    go_ret
    exact ⟨retB (b := false) ⟨fun h => (by cases h), fun h => absurd ⟨h.1, h.2.1⟩ (unhide H)⟩, hb5⟩

set_option maxHeartbeats 1000000 in
theorem goodRecord_any (a a2 : Option Addr) (len cap l2 c2 : Nat) (l : List AtomT) (n : List ByteArray) (w : World) (hl : len ≤ maxLen) (hs : SlA w a len l) (hs2 : SlS w a2 l2 n) (hi : ∀ q ∈ l, AtomT.Ok q) (hn : ∀ q ∈ n, ByteArray.size q ≤ maxLen) :
    Calls Tryz.prog 68 #[.slice a2 l2 c2, .slice a len cap] w fun e w' => RetB e (n.length = l.length ∧ (l.length ≤ 50 ∧ AllA l l.length) ∧ AllN n n.length ∧ RisN n n.length) ∧ Below w.heap.size w w' := by
  have qa := hide (goodItems_any a len cap l w hl hs hi)
  have HS := hide hs
  have HS2 := hide hs2
  clear hs hs2 hi
  by_cases hne : l2 = len
  · subst hne
    by_cases h : l.length ≤ 50 ∧ AllA l l.length
    · have h50 : l2 ≤ 50 := by rw [(unhide HS).1]; exact h.1
      have qr := hide (fun w (hs : SlS w a2 l2 n) => risingN_any a2 l2 c2 n w h50 hs)
      have H := hide h
      clear h
      go_enter Tryz.func68, Tryz.ntmps68
      go_wp2_with fail
      refine (unhide qa).mono ?_
      rintro e w5 ⟨⟨b, rfl, hb⟩, hb5⟩
      obtain rfl : b = true := hb.2 (unhide H)
      clear hb qa
      go_wp2_with fail
      go_loopw [19] (fun i w' => ∃ k : Nat, k ≤ l2 ∧ i = .int .i64 k ∧ Hid (Below w.heap.size w w') ∧ Hid (AllN n k)) (fun i _ => l2 - (intOf i).toNat)
      case atStart => exact ⟨0, Nat.zero_le _, rfl, hide hb5, hide (fun i _ h => absurd h (Nat.not_lt_zero _))⟩
      case round =>
        obtain ⟨k, hk, rfl, hb, hall⟩ := hrel
        clear hb5
        by_cases hlt : k < l2
        · have hk' : k < n.length := by rw [← (unhide HS2).1]; exact hlt
          obtain ⟨b, off, rfl, hrow⟩ := ((unhide HS2).keep (unhide hb)).at hlt
          have c0 := hrow.c k hk'
          have qk := hide (fun w => iGoodName_any n[k] (hn _ (List.getElem_mem hk')) w)
          have stepA := hide (fun g => (unhide hall).step hk' g)
          have noA : Hid (goodName n[k] = false → ¬ AllN n n.length) := hide (fun g h => by have := h k hk' hk'; rw [g] at this; cases this)
          clear hrow
          generalize n[k] = P at *
          cases g : goodName P
          · rw [g] at qk
            replace noA := hide (unhide noA g)
            clear g
            go_wp2_with (go_at_call 86; refine (unhide qk _).mono ?_; rintro e w6 ⟨rfl, hb6⟩)
            go_ret
            exact ⟨retB (b := false) ⟨fun h => (by cases h), fun h => absurd h.2.2.1 (unhide noA)⟩, bTr (unhide hb) hb6⟩
          · rw [g] at qk
            replace stepA := hide (unhide stepA g)
            clear g
            go_wp2_with (go_at_call 86; refine (unhide qk _).mono ?_; rintro e w6 ⟨rfl, hb6⟩)
            exact ⟨⟨k + 1, by omega, by go_num, hide (bTr (unhide hb) hb6), stepA⟩, by simp [intOf]; omega⟩
        · have e : k = n.length := by rw [← (unhide HS2).1]; omega
          have hA : Hid (AllN n n.length) := hide (by rw [← e]; exact unhide hall)
          clear e
          go_wp2_with fail
          refine (unhide qr _ ((unhide HS2).keep (unhide hb))).mono ?_
          rintro e w6 ⟨⟨b, rfl, hb'⟩, hb6⟩
          have HB := hide hb'
          clear hb'
          go_wp2_with fail
          go_ret
          exact ⟨retB (by rw [unhide HB]; exact ⟨fun h => ⟨by rw [← (unhide HS).1, ← (unhide HS2).1], unhide H, unhide hA, h⟩, fun h => h.2.2.2⟩), bTr (unhide hb) hb6⟩
    · have H := hide h
      clear h
      go_enter Tryz.func68, Tryz.ntmps68
      go_wp2_with fail
      refine (unhide qa).mono ?_
      rintro e w5 ⟨⟨b, rfl, hb⟩, hb5⟩
      obtain rfl : b = false := by
        cases b
        · rfl
        · exact absurd (hb.1 rfl) (unhide H)
      clear hb qa
      go_wp2_with fail
      go_ret
      exact ⟨retB (b := false) ⟨fun h => (by cases h), fun h => absurd h.2.1 (unhide H)⟩, hb5⟩
  · have d : ((l2 : Int) != (len : Int)) = true := by simp; omega
    have HN := hide hne
    clear hne
    go_enter Tryz.func68, Tryz.ntmps68
    go_wp2_with fail
    go_ret
    exact ⟨retB (b := false) ⟨fun h => (by cases h), fun h => absurd h.1 (by rw [← (unhide HS).1, ← (unhide HS2).1]; exact unhide HN)⟩, Below.refl _ _⟩
end Go.Proofs.YthemcakenammdaaGreatDoor.V
