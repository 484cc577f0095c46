/- impl.plainText, filterTreesText, filterTreeText, FilterText. -/
import Derived.Test.YtlkpeolecfemnaaUSy
import Derived.Test.YtlkpeolecfemnaaUBd
import Derived.Test.YtlkpeolecfemnaaQSla
namespace Go.Proofs.Ytlkpeolecfemnaa.V
open Go.RowKit Go.Maps

theorem tz00 (u : Value) (w : World) : (Instr.typeAssert (.iface 53 u) 41 53 true).run Try.prog w = .ok (.tuple #[u, .bool true]) w := by kernel_rfl
theorem tz10 (u : Value) (w : World) : (Instr.typeAssert (.iface 55 u) 41 53 true).run Try.prog w = .ok (.tuple #[.slice none 0 0, .bool false]) w := by kernel_rfl
theorem tz11 (u : Value) (w : World) : (Instr.typeAssert (.iface 55 u) 41 55 true).run Try.prog w = .ok (.tuple #[u, .bool true]) w := by kernel_rfl
theorem tz20 (u : Value) (w : World) : (Instr.typeAssert (.iface 57 u) 41 53 true).run Try.prog w = .ok (.tuple #[.slice none 0 0, .bool false]) w := by kernel_rfl
theorem tz21 (u : Value) (w : World) : (Instr.typeAssert (.iface 57 u) 41 55 true).run Try.prog w = .ok (.tuple #[.slice none 0 0, .bool false]) w := by kernel_rfl
theorem tz22 (u : Value) (w : World) : (Instr.typeAssert (.iface 57 u) 41 57 true).run Try.prog w = .ok (.tuple #[u, .bool true]) w := by kernel_rfl
theorem tz30 (u : Value) (w : World) : (Instr.typeAssert (.iface 59 u) 41 53 true).run Try.prog w = .ok (.tuple #[.slice none 0 0, .bool false]) w := by kernel_rfl
theorem tz31 (u : Value) (w : World) : (Instr.typeAssert (.iface 59 u) 41 55 true).run Try.prog w = .ok (.tuple #[.slice none 0 0, .bool false]) w := by kernel_rfl
theorem tz32 (u : Value) (w : World) : (Instr.typeAssert (.iface 59 u) 41 57 true).run Try.prog w = .ok (.tuple #[.agg #[.nilIface], .bool false]) w := by kernel_rfl
theorem tz33 (u : Value) (w : World) : (Instr.typeAssert (.iface 59 u) 41 59 true).run Try.prog w = .ok (.tuple #[u, .bool true]) w := by kernel_rfl
theorem tz40 (u : Value) (w : World) : (Instr.typeAssert (.iface 61 u) 41 53 true).run Try.prog w = .ok (.tuple #[.slice none 0 0, .bool false]) w := by kernel_rfl
theorem tz41 (u : Value) (w : World) : (Instr.typeAssert (.iface 61 u) 41 55 true).run Try.prog w = .ok (.tuple #[.slice none 0 0, .bool false]) w := by kernel_rfl
theorem tz42 (u : Value) (w : World) : (Instr.typeAssert (.iface 61 u) 41 57 true).run Try.prog w = .ok (.tuple #[.agg #[.nilIface], .bool false]) w := by kernel_rfl
theorem tz43 (u : Value) (w : World) : (Instr.typeAssert (.iface 61 u) 41 59 true).run Try.prog w = .ok (.tuple #[.agg #[.string ⟨#[]⟩], .bool false]) w := by kernel_rfl
theorem tz44 (u : Value) (w : World) : (Instr.typeAssert (.iface 61 u) 41 61 true).run Try.prog w = .ok (.tuple #[u, .bool true]) w := by kernel_rfl
theorem tz50 (u : Value) (w : World) : (Instr.typeAssert (.iface 63 u) 41 53 true).run Try.prog w = .ok (.tuple #[.slice none 0 0, .bool false]) w := by kernel_rfl
theorem tz51 (u : Value) (w : World) : (Instr.typeAssert (.iface 63 u) 41 55 true).run Try.prog w = .ok (.tuple #[.slice none 0 0, .bool false]) w := by kernel_rfl
theorem tz52 (u : Value) (w : World) : (Instr.typeAssert (.iface 63 u) 41 57 true).run Try.prog w = .ok (.tuple #[.agg #[.nilIface], .bool false]) w := by kernel_rfl
theorem tz53 (u : Value) (w : World) : (Instr.typeAssert (.iface 63 u) 41 59 true).run Try.prog w = .ok (.tuple #[.agg #[.string ⟨#[]⟩], .bool false]) w := by kernel_rfl
theorem tz54 (u : Value) (w : World) : (Instr.typeAssert (.iface 63 u) 41 61 true).run Try.prog w = .ok (.tuple #[.agg #[.string ⟨#[]⟩, .string ⟨#[]⟩], .bool false]) w := by kernel_rfl
theorem tz55 (u : Value) (w : World) : (Instr.typeAssert (.iface 63 u) 41 63 true).run Try.prog w = .ok (.tuple #[u, .bool true]) w := by kernel_rfl
theorem tz60 (u : Value) (w : World) : (Instr.typeAssert (.iface 65 u) 41 53 true).run Try.prog w = .ok (.tuple #[.slice none 0 0, .bool false]) w := by kernel_rfl
theorem tz61 (u : Value) (w : World) : (Instr.typeAssert (.iface 65 u) 41 55 true).run Try.prog w = .ok (.tuple #[.slice none 0 0, .bool false]) w := by kernel_rfl
theorem tz62 (u : Value) (w : World) : (Instr.typeAssert (.iface 65 u) 41 57 true).run Try.prog w = .ok (.tuple #[.agg #[.nilIface], .bool false]) w := by kernel_rfl
theorem tz63 (u : Value) (w : World) : (Instr.typeAssert (.iface 65 u) 41 59 true).run Try.prog w = .ok (.tuple #[.agg #[.string ⟨#[]⟩], .bool false]) w := by kernel_rfl
theorem tz64 (u : Value) (w : World) : (Instr.typeAssert (.iface 65 u) 41 61 true).run Try.prog w = .ok (.tuple #[.agg #[.string ⟨#[]⟩, .string ⟨#[]⟩], .bool false]) w := by kernel_rfl
theorem tz65 (u : Value) (w : World) : (Instr.typeAssert (.iface 65 u) 41 63 true).run Try.prog w = .ok (.tuple #[.agg #[.string ⟨#[]⟩, .string ⟨#[]⟩], .bool false]) w := by kernel_rfl
theorem tz66 (u : Value) (w : World) : (Instr.typeAssert (.iface 65 u) 41 65 true).run Try.prog w = .ok (.tuple #[u, .bool true]) w := by kernel_rfl

set_option maxRecDepth 20000 in
set_option maxHeartbeats 1000000 in
theorem plain_i (s : ByteArray) (h1 : 1 ≤ s.size) (h2 : s.size ≤ 200) (w : World) :
    Calls Try.prog 21 #[.string s] w fun e w' => e = .returned (.string (tb (plainB (esc fSig s.data.toList)))) ∧ Below w.heap.size w w' := by
  have q := hide (slashed_any s (tb fSig) (by omega) (by decide) w)
  have ef : (tb fSig).data.toList = fSig := rfl
  rw [ef] at q
  have ne := esc_ne' s h1
  have sz := esc_b s h2
  obtain ⟨E, hE⟩ : ∃ E, esc fSig s.data.toList = E := ⟨_, rfl⟩
  rw [hE] at q ne sz ⊢
  obtain ⟨c, E1, rfl⟩ : ∃ c E1, E = c :: E1 := by
    cases E with
    | nil => exact absurd rfl ne
    | cons c E1 => exact ⟨c, E1, rfl⟩
  have q' : Hid (Calls Try.prog 22 #[.string s, .string ⟨#[40, 41, 92]⟩] w fun e w' => e = .returned (.string (tb (c :: E1))) ∧ Below w.heap.size w w') := hide (unhide q)
  have zE : 0 < (tb (c :: E1)).size := by rw [tb_size]; simp
  have g0 := tb_get0 c E1
  have pc : Hid (plainB (c :: E1) = if c = 42 ∨ c = 126 then 92 :: c :: E1 else c :: E1) := hide plain_if
  clear q ef ne hE
  go_enter Try.func21, Try.ntmps21
  go_wp2_with fail
  refine (unhide q').mono ?_
  rintro e w1 ⟨rfl, hb1⟩
  clear q'
  by_cases c42 : c = 42
  · subst c42
    have pl : Hid ((⟨#[92]⟩ : ByteArray) ++ tb (42 :: E1) = tb (plainB (42 :: E1))) := hide (by rw [(unhide pc).trans (if_pos (.inl rfl))]; exact tb_app [92] (42 :: E1))
    clear pc
    go_wp2_with fail
    go_ret
    exact ⟨congrArg (fun x => Ending.returned (Value.string x)) (unhide pl), hb1⟩
  by_cases c126 : c = 126
  · subst c126
    have pl : Hid ((⟨#[92]⟩ : ByteArray) ++ tb (126 :: E1) = tb (plainB (126 :: E1))) := hide (by rw [(unhide pc).trans (if_pos (.inr rfl))]; exact tb_app [92] (126 :: E1))
    clear pc c42
    go_wp2_with fail
    go_ret
    exact ⟨congrArg (fun x => Ending.returned (Value.string x)) (unhide pl), hb1⟩
  have pl : Hid (tb (c :: E1) = tb (plainB (c :: E1))) := hide (by rw [(unhide pc).trans (if_neg (fun h => h.elim c42 c126))])
  have y1 : ¬ (c.toNat : Int) = 42 := fun h => c42 (UInt8.toNat_inj.1 (by have : (42 : UInt8).toNat = 42 := rfl; omega))
  have y2 : ¬ (c.toNat : Int) = 126 := fun h => c126 (UInt8.toNat_inj.1 (by have : (126 : UInt8).toNat = 126 := rfl; omega))
  clear pc c42 c126
  go_wp2_with fail
  · rename_i hh
    exact absurd hh (by rintro (h | h) <;> simp [y1, y2] at h)
  · go_ret
    exact ⟨congrArg (fun x => Ending.returned (Value.string x)) (unhide pl), hb1⟩

/-- Each node has as many kids as it tells. -/
inductive ArOk : FT → Prop
  | mk {x : FilterNodeT} {ks : List FT} (h1 : x.f3 = (ks.length : Int)) (h2 : ∀ k ∈ ks, ArOk k) : ArOk (.node x ks)
theorem ArOk.out {x : FilterNodeT} {ks : List FT} (h : ArOk (.node x ks)) : x.f3 = (ks.length : Int) ∧ ∀ k ∈ ks, ArOk k := by
  cases h with
  | mk h1 h2 => exact ⟨h1, h2⟩
theorem takeK_ar {f : List FilterNodeT → Option (FT × List FilterNodeT)} (hf : ∀ l t l', f l = some (t, l') → ArOk t) : ∀ (n : Nat) (l : List FilterNodeT) (ks : List FT) (l' : List FilterNodeT), takeK f n l = some (ks, l') → ks.length = n ∧ ∀ k ∈ ks, ArOk k
  | 0, l, ks, l', h => by simp [takeK] at h; obtain ⟨rfl, rfl⟩ := h; simp
  | n + 1, l, ks, l', h => by
    simp only [takeK, Option.bind_eq_some_iff, Option.map_eq_some_iff, Prod.exists, Prod.mk.injEq] at h
    obtain ⟨t, r1, h1, ts, r2, h2, rfl, rfl⟩ := h
    have a := hf _ _ _ h1
    have b := takeK_ar hf n _ _ _ h2
    exact ⟨by simp [b.1], by simpa using ⟨a, b.2⟩⟩
theorem takeT_ar : ∀ (r : Nat) (l : List FilterNodeT) (t : FT) (l' : List FilterNodeT), takeT r l = some (t, l') → ArOk t
  | 0, l, t, l', h => by simp [takeT] at h
  | r + 1, [], t, l', h => by simp [takeT] at h
  | r + 1, x :: l, t, l', h => by
    simp only [takeT] at h
    split at h
    · cases h
    · rename_i hx
      obtain ⟨⟨ks, q⟩, h1, h2⟩ := Option.map_eq_some_iff.1 h
      obtain ⟨rfl, rfl⟩ := by simpa using h2
      have := takeK_ar (takeT_ar r) _ _ _ _ h1
      exact .mk (by omega) this.2

def TxI (r lo : Nat) : Prop := ∀ (t : FT) (v : Value) (w : World), FilAt w lo r t v → Right t → ArOk t → (ftx r t).length ≤ 100000 →
    Calls Try.prog 14 #[v] w fun e w' => e = .returned (.string (tb (ftx r t))) ∧ Below w.heap.size w w'
theorem bld_new (w : World) (T : Nat) : Lib.IsBuilderF T 5 w.heap.size w.heap.size (Lib.byteCells []) (w.alloc (.cells #[.pointer none, .slice none 0 0] T)) :=
  .inl ⟨Nat.le_refl _, .slice none 0 0, heap_alloc_new w _, ⟨rfl, .inl ⟨rfl, rfl⟩⟩, by simp [Value.ownBlock]⟩

set_option maxRecDepth 100000 in
set_option maxHeartbeats 2000000 in
theorem trees_i (r lo : Nat) (IH : TxI r lo) (ks : List FT) (vs : List Value) (b : Nat) (w : World) (hv : vs.length = ks.length) (hc : ∀ i (h : i < vs.length), w.cell? ⟨b, i, none⟩ = some vs[i])
    (hf : ∀ i (h : i < ks.length) (h' : i < vs.length), FilAt w lo r ks[i] vs[i]) (hR : ∀ k ∈ ks, Right k) (hA : ∀ k ∈ ks, ArOk k) (hN : (ks.flatMap (ftx r)).length ≤ 100000) (hn : ks.length ≤ 1000) :
    Calls Try.prog 20 #[.slice (some ⟨b, 0, none⟩) ks.length ks.length] w fun e w' => e = .returned (.string (tb (ks.flatMap (ftx r)))) ∧ Below w.heap.size w w' := by
  have ih := hide IH
  have HV := hide hv
  have HC := hide hc
  have HF := hide hf
  have HR := hide hR
  have HA := hide hA
  have HN := hide hN
  obtain ⟨W, hW⟩ : ∃ W, W = w.alloc (.cells #[.pointer none, .slice none 0 0] 75) := ⟨_, rfl⟩
  have BW : Hid (Below w.heap.size w W) := hide (by rw [hW]; exact bAl (Below.refl _ _) _)
  have IB : Hid (Lib.IsBuilderF 75 5 w.heap.size w.heap.size (Lib.byteCells []) W) := hide (by rw [hW]; exact bld_new w _)
  have HW := hide hW.symm
  clear IH hv hc hf hR hA hN hW
  go_enter Try.func20, Try.ntmps20
  go_wp2_with fail
  rw [unhide HW]
  clear HW
  go_loopw [8] (fun i w' => ∃ (k : Nat), k ≤ ks.length ∧ i = .int .i64 k ∧ Hid (Below w.heap.size w w') ∧ Hid (Lib.IsBuilderF 75 5 w.heap.size w.heap.size (Lib.byteCells ((ks.take k).flatMap (ftx r))) w')) (fun i _ => ks.length - (Go.RowKit.intOf i).toNat)
  case atStart => exact ⟨0, Nat.zero_le _, rfl, BW, IB⟩
  case round =>
    clear BW IB
    obtain ⟨k, hk, rfl, hb, hi⟩ := hrel
    by_cases hlt : k < ks.length
    · have hv' : k < vs.length := by rw [unhide HV]; exact hlt
      have fa := (unhide HF k hlt hv').fr (Fu.below (unhide hb) lo)
      have c0 := unhide HC k hv'
      have c1 := cellB (unhide hb) (World.block_lt_of_cell? w ⟨b, k, none⟩ c0) c0
      clear c0
      have rt := unhide HR ks[k] (List.getElem_mem _)
      have ra := unhide HA ks[k] (List.getElem_mem _)
      have lt' : (ftx r ks[k]).length ≤ 100000 := Nat.le_trans (flat_mem (g := ftx r) (List.getElem_mem hlt)) (unhide HN)
      have fl : Hid ((ks.take (k + 1)).flatMap (ftx r) = (ks.take k).flatMap (ftx r) ++ ftx r ks[k]) := hide (flat_snoc _ _ _ hlt)
      have ln : ((ks.take k).flatMap (ftx r)).length ≤ 100000 := Nat.le_trans (flat_take _ _ _) (unhide HN)
      have q := hide (unhide ih _ _ wr fa rt ra lt')
      obtain ⟨TU, hTU⟩ : ∃ TU, ks[k] = TU := ⟨_, rfl⟩
      obtain ⟨V, hV⟩ : ∃ V, vs[k] = V := ⟨_, rfl⟩
      rw [hTU] at fl lt' q fa
      rw [hV] at c1 q fa
      obtain ⟨T0, u0, rfl⟩ := fa.if_
      have q2 := hide (fun w' h hB => bld_write w.heap.size w.heap.size (Lib.byteCells ((ks.take k).flatMap (ftx r))) (tb (ftx r TU)) w' h (by rw [Lib.byteCells_length, tb_size]; omega) hB)
      have i0 : (0 : Int) ≤ (k : Int) := by omega
      have i1 : (k : Int) < (ks.length : Int) := by omega
      clear fa rt ra ih hTU hV
      have fl2 : Hid (Lib.byteCells ((ks.take (k + 1)).flatMap (ftx r)) = Lib.byteCells ((ks.take k).flatMap (ftx r)) ++ Lib.strCells (tb (ftx r TU))) := hide (by rw [unhide fl, Lib.byteCells_append]; rfl)
      generalize Lib.byteCells ((ks.take k).flatMap (ftx r)) = BS at *
      generalize tb (ftx r TU) = TT at *
      go_wp2_with fail
      refine (unhide q).mono ?_
      rintro e w1 ⟨rfl, hb1⟩
      have I1 := hide (bld_keep (unhide hi) hb1)
      have B1 := hide (bTr (unhide hb) hb1)
      clear q hb1 hi hb c1 lt' ln fl
      go_wp2_with fail
      refine (unhide q2 _ (unhide I1) (unhide B1).size).mono ?_
      rintro e w2 ⟨rfl, I2, hb2⟩
      have B2 := hide ((unhide B1).trans hb2)
      have I3 := hide I2
      clear q2 I2 hb2 I1 B1
      go_wp2_with fail
      exact ⟨⟨k + 1, by omega, by go_num, B2, hide (by rw [unhide fl2]; exact unhide I3)⟩, by simp [Go.RowKit.intOf]; omega⟩
    · obtain rfl : k = ks.length := by omega
      have q := hide (Try.Builder_String_any_f w.heap.size w.heap.size _ wr (unhide hi) (unhide hb).size)
      rw [List.take_length] at q
      have q' : Hid (Calls Try.prog 29 #[.pointer (some ⟨w.heap.size, 0, none⟩)] wr fun e w' => e = .returned (.string (tb (ks.flatMap (ftx r)))) ∧ Below w.heap.size wr w') := hide ((unhide q).mono (by rintro e w' ⟨h1, h2, h3⟩; exact ⟨h1, h3⟩))
      clear q ih hi
      go_wp2_with fail
      refine (unhide q').mono ?_
      rintro e w1 ⟨rfl, hb1⟩
      clear q'
      go_wp2_with fail
      go_ret
      exact ⟨rfl, (unhide hb).trans hb1⟩

set_option maxRecDepth 100000 in
set_option maxHeartbeats 4000000 in
theorem tree_i (r lo : Nat) (IH : TxI r lo) (x : FilterNodeT) (ks : List FT) (v : Value) (w : World) (h : FilAt w lo (r + 1) (.node x ks) v) (hR : Right (.node x ks)) (hA : ArOk (.node x ks)) (hN : (ftx (r + 1) (.node x ks)).length ≤ 100000) :
    Calls Try.prog 14 #[v] w fun e w' => e = .returned (.string (tb (ftx (r + 1) (.node x ks)))) ∧ Below w.heap.size w w' := by
  obtain ⟨b, vs, rfl, hv, _, hz, hc, hf⟩ := h
  obtain ⟨hP, hRk⟩ := hR.out
  obtain ⟨hA3, hAk⟩ := hA.out
  have h20 := hP.kids
  have HE : Hid (ftx (r + 1) (.node x ks) = headB x ++ ks.flatMap (ftx r) ++ [41]) := hide rfl
  have ln : (ks.flatMap (ftx r)).length ≤ 100000 := by
    have := hN
    rw [unhide HE] at this
    simp only [List.length_append, List.length_cons, List.length_nil] at this
    omega
  have hn : ks.length ≤ 1000 := by omega
  have qt := hide (fun w' (hb : Below w.heap.size w w') => trees_i r lo IH ks vs b w' hv (fun i h => cellB hb hz (hc i h)) (fun i h h' => (hf i h h').fr (Fu.below hb lo)) hRk hAk ln hn)
  have lnS : (tb (ks.flatMap (ftx r))).size ≤ 100000 := by rw [tb_size]; exact ln
  have nl : Hid (x.f0 ≠ 1 → x.f0 ≠ 2 → x.f0 ≠ 3 → ks.flatMap (ftx r) = []) := hide (fun a1 a2 a3 => by
    have : x.f3 = 0 := by
      unfold NodeP at hP
      rw [if_neg (by omega), if_neg a3] at hP
      split at hP
      · exact hP.2.2
      · split at hP
        · exact hP.2.2.1
        · cases hP
    have : ks = [] := List.length_eq_zero_iff.1 (by omega)
    rw [this]; rfl)
  have m1 := hide hP.name
  have m2 := hide hP.text
  have m4 := hide hP.four
  unfold treeV
  by_cases k1 : x.f0 = 1
  · have hd : headB x = [40, 38] := by unfold headB; rw [if_pos k1]
    rw [if_pos k1, unhide HE, hd]
    have fin : Hid ((⟨#[40, 38]⟩ : ByteArray) ++ tb (ks.flatMap (ftx r)) ++ ⟨#[41]⟩ = tb ([40, 38] ++ ks.flatMap (ftx r) ++ [41])) := hide (by rw [← tb_app, ← tb_app]; rfl)
    have qt' := hide (unhide qt w (Below.refl _ _))
    generalize tb (ks.flatMap (ftx r)) = TT at *
    have ta0 := tz00 (.slice (some ⟨b, 0, none⟩) ks.length ks.length)
    clear IH hR hA hN hv hc hf hP hRk hA3 hAk qt ln hd nl HE m1 m2 m4
    go_enter Try.func14, Try.ntmps14
    go_wp2_with fail
    refine (unhide qt').mono ?_
    rintro e w1 ⟨rfl, hb1⟩
    clear qt'
    go_wp2_with fail
    go_ret
    exact ⟨congrArg (fun x => Ending.returned (Value.string x)) (unhide fin), hb1⟩
  by_cases k2 : x.f0 = 2
  · have hd : headB x = [40, 124] := by unfold headB; rw [if_neg k1, if_pos k2]
    rw [if_neg k1, if_pos k2, unhide HE, hd]
    have fin : Hid ((⟨#[40, 124]⟩ : ByteArray) ++ tb (ks.flatMap (ftx r)) ++ ⟨#[41]⟩ = tb ([40, 124] ++ ks.flatMap (ftx r) ++ [41])) := hide (by rw [← tb_app, ← tb_app]; rfl)
    have qt' := hide (unhide qt w (Below.refl _ _))
    generalize tb (ks.flatMap (ftx r)) = TT at *
    have ta0 := tz10 (.slice (some ⟨b, 0, none⟩) ks.length ks.length)
    have ta1 := tz11 (.slice (some ⟨b, 0, none⟩) ks.length ks.length)
    clear IH hR hA hN hv hc hf hP hRk hA3 hAk qt ln hd nl HE m1 m2 m4
    go_enter Try.func14, Try.ntmps14
    go_wp2_with fail
    refine (unhide qt').mono ?_
    rintro e w1 ⟨rfl, hb1⟩
    clear qt'
    go_wp2_with fail
    go_ret
    exact ⟨congrArg (fun x => Ending.returned (Value.string x)) (unhide fin), hb1⟩
  by_cases k3 : x.f0 = 3
  · have hd : headB x = [40, 33] := by unfold headB; rw [if_neg k1, if_neg k2, if_pos k3]
    rw [if_neg k1, if_neg k2, if_pos k3, unhide HE, hd]
    have e1 : ks.length = 1 := by
      have : x.f3 = 1 := by
        unfold NodeP at hP
        rw [if_neg (by omega), if_pos k3] at hP
        exact hP.2.2
      omega
    obtain ⟨k0, rfl⟩ := List.length_eq_one_iff.1 e1
    obtain ⟨v0, rfl⟩ := List.length_eq_one_iff.1 (hv.trans e1)
    have fa := hf 0 (by simp) (by simp)
    simp only [List.getElem_cons_zero] at fa
    obtain ⟨T0, u0, rfl⟩ := fa.if_
    have efl : [k0].flatMap (ftx r) = ftx r k0 := by simp
    rw [efl] at ln lnS ⊢
    have eg : [Value.iface T0 u0].getD 0 .nilIface = .iface T0 u0 := rfl
    rw [eg]
    have qk := hide (fun w' (hb : Below w.heap.size w w') => IH k0 _ w' (fa.fr (Fu.below hb lo)) (hRk k0 (by simp)) (hAk k0 (by simp)) ln)
    have fin : Hid ((⟨#[40, 33]⟩ : ByteArray) ++ tb (ftx r k0) ++ ⟨#[41]⟩ = tb ([40, 33] ++ ftx r k0 ++ [41])) := hide (by rw [← tb_app, ← tb_app]; rfl)
    generalize tb (ftx r k0) = TT at *
    have ta0 := tz20 (.agg #[.iface T0 u0])
    have ta1 := tz21 (.agg #[.iface T0 u0])
    have ta2 := tz22 (.agg #[.iface T0 u0])
    clear IH hR hA hN hv hc hf hP hRk hA3 hAk qt ln hd nl HE m1 m2 m4 fa efl eg e1
    go_enter Try.func14, Try.ntmps14
    go_wp2_with fail
    refine (unhide qk _ (bAl (Below.refl _ _) _)).mono ?_
    rintro e w1 ⟨rfl, hb1⟩
    have B1 := hide (bTr (bAl (Below.refl w.heap.size w) _) hb1)
    clear qk hb1
    go_wp2_with fail
    go_ret
    exact ⟨congrArg (fun x => Ending.returned (Value.string x)) (unhide fin), unhide B1⟩
  have s1 := unhide m1 k1 k2 k3
  rw [if_neg k1, if_neg k2, if_neg k3, unhide HE, unhide nl k1 k2 k3, List.append_nil]
  clear IH hR hA hN hv hc hf hRk hA3 hAk qt ln nl HE lnS hz
  by_cases k7 : x.f0 = 7
  · have hd : headB x = [40] ++ x.f1.data.toList ++ [61, 42] := by unfold headB; rw [if_neg k1, if_neg k2, if_neg k3, if_pos k7]
    rw [if_pos k7, hd]
    have fin : Hid ((⟨#[40]⟩ : ByteArray) ++ x.f1 ++ ⟨#[61, 42, 41]⟩ = tb ([40] ++ x.f1.data.toList ++ [61, 42] ++ [41])) := hide (by rw [← tb_app, ← tb_app, ← tb_app, tb_of, ByteArray.append_assoc, ByteArray.append_assoc, ByteArray.append_assoc]; rfl)
    have ta0 := tz30 (.agg #[.string x.f1])
    have ta1 := tz31 (.agg #[.string x.f1])
    have ta2 := tz32 (.agg #[.string x.f1])
    have ta3 := tz33 (.agg #[.string x.f1])
    clear hP hd m1 m2 m4
    generalize x.f1 = F at *
    go_enter Try.func14, Try.ntmps14
    go_wp2_with fail
    go_ret
    exact ⟨congrArg (fun x => Ending.returned (Value.string x)) (unhide fin), bAl (Below.refl _ _) _⟩
  have s2 := unhide m2 k1 k2 k3 k7
  have ls := esc_b x.f2 s2.2
  have lp : (tb (plainB (esc fSig x.f2.data.toList))).size ≤ 1000 := by
    rw [tb_size] at ls ⊢
    have := plain_le (esc fSig x.f2.data.toList)
    omega
  have qp := hide (fun w => plain_i x.f2 s2.1 s2.2 w)
  have qs0 := slashed_any x.f2 (tb fSig) (by omega) (by decide)
  have ef : (tb fSig).data.toList = fSig := rfl
  rw [ef] at qs0
  have qs : Hid (∀ w, Calls Try.prog 22 #[.string x.f2, .string ⟨#[40, 41, 92]⟩] w fun e w' => e = .returned (.string (tb (esc fSig x.f2.data.toList))) ∧ Below w.heap.size w w') := hide qs0
  clear qs0 ef
  rw [if_neg k7]
  by_cases k5 : x.f0 = 5
  · have hd : headB x = [40] ++ x.f1.data.toList ++ [62, 61] ++ plainB (esc fSig x.f2.data.toList) := by unfold headB; rw [if_neg k1, if_neg k2, if_neg k3, if_neg k7, if_neg (by omega)]; unfold opB; rw [if_pos k5]
    rw [if_pos k5, hd]
    generalize plainB (esc fSig x.f2.data.toList) = EE at *
    have fin : Hid ((⟨#[40]⟩ : ByteArray) ++ x.f1 ++ ⟨#[62, 61]⟩ ++ tb EE ++ ⟨#[41]⟩ = tb ([40] ++ x.f1.data.toList ++ [62, 61] ++ EE ++ [41])) := hide (by rw [← tb_app, ← tb_app, ← tb_app, ← tb_app, tb_of]; rfl)
    have ta0 := tz60 (.agg #[.string x.f1, .string x.f2, .int .i64 1])
    have ta1 := tz61 (.agg #[.string x.f1, .string x.f2, .int .i64 1])
    have ta2 := tz62 (.agg #[.string x.f1, .string x.f2, .int .i64 1])
    have ta3 := tz63 (.agg #[.string x.f1, .string x.f2, .int .i64 1])
    have ta4 := tz64 (.agg #[.string x.f1, .string x.f2, .int .i64 1])
    have ta5 := tz65 (.agg #[.string x.f1, .string x.f2, .int .i64 1])
    have ta6 := tz66 (.agg #[.string x.f1, .string x.f2, .int .i64 1])
    generalize tb EE = TT at *
    clear hP hd m1 m2 m4 qs ls
    generalize x.f1 = F at *
    generalize x.f2 = G at *
    obtain ⟨W, hW⟩ : ∃ W, W = w.alloc (.cells #[.string F, .string G, .int .i64 1] 65) := ⟨_, rfl⟩
    have BW : Hid (Below w.heap.size w W) := hide (by rw [hW]; exact bAl (Below.refl _ _) _)
    have R1 : RowIs W w.heap.size (#[.string F, .string G, .int .i64 1]) 65 := by rw [hW]; exact RowIs.new w _ _
    have HW := hide hW.symm
    clear hW
    have zr := R1.lt
    have ne : Nonempty (Kept W) := ⟨⟨W, Below.refl _ _⟩⟩
    have x0 := kept_cell zr (R1.at (o := 0) (v := .string F) rfl)
    have x1 := kept_cell zr (R1.at (o := 1) (v := .string G) rfl)
    have r2 := R1.at (o := 2) (v := .int .i64 1) rfl
    go_enter Try.func14, Try.ntmps14
    go_wp2_with fail
    rw [unhide HW]
    refine wp_region_kept (by kernel_rfl) (by kernel_rfl) ?_
    repeat (first
      | go_big_quiet_step ((go_at_call 21; exact kept_call (unhide qp _)))
      | quiet_step ((go_at_call 21; exact kept_call (unhide qp _))))
    refine wpQuiet_nil ?_
    rintro _ ⟨y, rfl⟩
    obtain ⟨w3, hb3⟩ := y
    go_wp2_with fail
    go_ret
    exact ⟨congrArg (fun x => Ending.returned (Value.string x)) (unhide fin), bTr (unhide BW) hb3⟩
  by_cases k6 : x.f0 = 6
  · have hd : headB x = [40] ++ x.f1.data.toList ++ [60, 61] ++ plainB (esc fSig x.f2.data.toList) := by unfold headB; rw [if_neg k1, if_neg k2, if_neg k3, if_neg k7, if_neg (by omega)]; unfold opB; rw [if_neg k5, if_pos k6]
    rw [if_neg k5, if_pos k6, hd]
    generalize plainB (esc fSig x.f2.data.toList) = EE at *
    have fin : Hid ((⟨#[40]⟩ : ByteArray) ++ x.f1 ++ ⟨#[60, 61]⟩ ++ tb EE ++ ⟨#[41]⟩ = tb ([40] ++ x.f1.data.toList ++ [60, 61] ++ EE ++ [41])) := hide (by rw [← tb_app, ← tb_app, ← tb_app, ← tb_app, tb_of]; rfl)
    have ta0 := tz60 (.agg #[.string x.f1, .string x.f2, .int .i64 (-1)])
    have ta1 := tz61 (.agg #[.string x.f1, .string x.f2, .int .i64 (-1)])
    have ta2 := tz62 (.agg #[.string x.f1, .string x.f2, .int .i64 (-1)])
    have ta3 := tz63 (.agg #[.string x.f1, .string x.f2, .int .i64 (-1)])
    have ta4 := tz64 (.agg #[.string x.f1, .string x.f2, .int .i64 (-1)])
    have ta5 := tz65 (.agg #[.string x.f1, .string x.f2, .int .i64 (-1)])
    have ta6 := tz66 (.agg #[.string x.f1, .string x.f2, .int .i64 (-1)])
    generalize tb EE = TT at *
    clear hP hd m1 m2 m4 qs ls
    generalize x.f1 = F at *
    generalize x.f2 = G at *
    obtain ⟨W, hW⟩ : ∃ W, W = w.alloc (.cells #[.string F, .string G, .int .i64 (-1)] 65) := ⟨_, rfl⟩
    have BW : Hid (Below w.heap.size w W) := hide (by rw [hW]; exact bAl (Below.refl _ _) _)
    have R1 : RowIs W w.heap.size (#[.string F, .string G, .int .i64 (-1)]) 65 := by rw [hW]; exact RowIs.new w _ _
    have HW := hide hW.symm
    clear hW
    have zr := R1.lt
    have ne : Nonempty (Kept W) := ⟨⟨W, Below.refl _ _⟩⟩
    have x0 := kept_cell zr (R1.at (o := 0) (v := .string F) rfl)
    have x1 := kept_cell zr (R1.at (o := 1) (v := .string G) rfl)
    have r2 := R1.at (o := 2) (v := .int .i64 (-1)) rfl
    go_enter Try.func14, Try.ntmps14
    go_wp2_with fail
    rw [unhide HW]
    refine wp_region_kept (by kernel_rfl) (by kernel_rfl) ?_
    repeat (first
      | go_big_quiet_step ((go_at_call 21; exact kept_call (unhide qp _)))
      | quiet_step ((go_at_call 21; exact kept_call (unhide qp _))))
    refine wpQuiet_nil ?_
    rintro _ ⟨y, rfl⟩
    obtain ⟨w3, hb3⟩ := y
    go_wp2_with fail
    go_ret
    exact ⟨congrArg (fun x => Ending.returned (Value.string x)) (unhide fin), bTr (unhide BW) hb3⟩
  by_cases k8 : x.f0 = 8
  · have hd : headB x = [40] ++ x.f1.data.toList ++ [61, 126] ++ esc fSig x.f2.data.toList := by unfold headB; rw [if_neg k1, if_neg k2, if_neg k3, if_neg k7, if_pos k8]
    rw [if_neg k5, if_neg k6, if_pos k8, hd]
    generalize esc fSig x.f2.data.toList = EE at *
    have fin : Hid ((⟨#[40]⟩ : ByteArray) ++ x.f1 ++ ⟨#[61, 126]⟩ ++ tb EE ++ ⟨#[41]⟩ = tb ([40] ++ x.f1.data.toList ++ [61, 126] ++ EE ++ [41])) := hide (by rw [← tb_app, ← tb_app, ← tb_app, ← tb_app, tb_of]; rfl)
    have ta0 := tz50 (.agg #[.string x.f1, .string x.f2])
    have ta1 := tz51 (.agg #[.string x.f1, .string x.f2])
    have ta2 := tz52 (.agg #[.string x.f1, .string x.f2])
    have ta3 := tz53 (.agg #[.string x.f1, .string x.f2])
    have ta4 := tz54 (.agg #[.string x.f1, .string x.f2])
    have ta5 := tz55 (.agg #[.string x.f1, .string x.f2])
    generalize tb EE = TT at *
    clear hP hd m1 m2 m4 qp lp
    generalize x.f1 = F at *
    generalize x.f2 = G at *
    obtain ⟨W, hW⟩ : ∃ W, W = w.alloc (.cells #[.string F, .string G] 63) := ⟨_, rfl⟩
    have BW : Hid (Below w.heap.size w W) := hide (by rw [hW]; exact bAl (Below.refl _ _) _)
    have R1 : RowIs W w.heap.size (#[.string F, .string G]) 63 := by rw [hW]; exact RowIs.new w _ _
    have HW := hide hW.symm
    clear hW
    have zr := R1.lt
    have ne : Nonempty (Kept W) := ⟨⟨W, Below.refl _ _⟩⟩
    have x0 := kept_cell zr (R1.at (o := 0) (v := .string F) rfl)
    have x1 := kept_cell zr (R1.at (o := 1) (v := .string G) rfl)
    go_enter Try.func14, Try.ntmps14
    go_wp2_with fail
    rw [unhide HW]
    refine wp_region_kept (by kernel_rfl) (by kernel_rfl) ?_
    repeat (first
      | go_big_quiet_step ((go_at_call 22; exact kept_call (unhide qs _)))
      | quiet_step ((go_at_call 22; exact kept_call (unhide qs _))))
    refine wpQuiet_nil ?_
    rintro _ ⟨y, rfl⟩
    obtain ⟨w3, hb3⟩ := y
    go_wp2_with fail
    go_ret
    exact ⟨congrArg (fun x => Ending.returned (Value.string x)) (unhide fin), bTr (unhide BW) hb3⟩
  · have k4 := unhide m4 k1 k2 k3 k7 k8 k5 k6
    have hd : headB x = [40] ++ x.f1.data.toList ++ [61] ++ plainB (esc fSig x.f2.data.toList) := by unfold headB; rw [if_neg k1, if_neg k2, if_neg k3, if_neg k7, if_neg k8]; unfold opB; rw [if_neg k5, if_neg k6]
    rw [if_neg k5, if_neg k6, if_neg k8, hd]
    generalize plainB (esc fSig x.f2.data.toList) = EE at *
    have fin : Hid ((⟨#[40]⟩ : ByteArray) ++ x.f1 ++ ⟨#[61]⟩ ++ tb EE ++ ⟨#[41]⟩ = tb ([40] ++ x.f1.data.toList ++ [61] ++ EE ++ [41])) := hide (by rw [← tb_app, ← tb_app, ← tb_app, ← tb_app, tb_of]; rfl)
    have ta0 := tz40 (.agg #[.string x.f1, .string x.f2])
    have ta1 := tz41 (.agg #[.string x.f1, .string x.f2])
    have ta2 := tz42 (.agg #[.string x.f1, .string x.f2])
    have ta3 := tz43 (.agg #[.string x.f1, .string x.f2])
    have ta4 := tz44 (.agg #[.string x.f1, .string x.f2])
    generalize tb EE = TT at *
    clear hP hd m1 m2 m4 qs ls
    generalize x.f1 = F at *
    generalize x.f2 = G at *
    obtain ⟨W, hW⟩ : ∃ W, W = w.alloc (.cells #[.string F, .string G] 61) := ⟨_, rfl⟩
    have BW : Hid (Below w.heap.size w W) := hide (by rw [hW]; exact bAl (Below.refl _ _) _)
    have R1 : RowIs W w.heap.size (#[.string F, .string G]) 61 := by rw [hW]; exact RowIs.new w _ _
    have HW := hide hW.symm
    clear hW
    have zr := R1.lt
    have ne : Nonempty (Kept W) := ⟨⟨W, Below.refl _ _⟩⟩
    have x0 := kept_cell zr (R1.at (o := 0) (v := .string F) rfl)
    have x1 := kept_cell zr (R1.at (o := 1) (v := .string G) rfl)
    go_enter Try.func14, Try.ntmps14
    go_wp2_with fail
    rw [unhide HW]
    refine wp_region_kept (by kernel_rfl) (by kernel_rfl) ?_
    repeat (first
      | go_big_quiet_step ((go_at_call 21; exact kept_call (unhide qp _)))
      | quiet_step ((go_at_call 21; exact kept_call (unhide qp _))))
    refine wpQuiet_nil ?_
    rintro _ ⟨y, rfl⟩
    obtain ⟨w3, hb3⟩ := y
    go_wp2_with fail
    go_ret
    exact ⟨congrArg (fun x => Ending.returned (Value.string x)) (unhide fin), bTr (unhide BW) hb3⟩
theorem text_i : ∀ (r lo : Nat), TxI r lo
  | 0, _ => fun t _ _ h _ _ _ => by cases t; exact absurd h id
  | r + 1, lo => fun t v w h hR hA hN => by
    cases t with
    | node x ks => exact tree_i r lo (text_i r lo) x ks v w h hR hA hN

set_option maxHeartbeats 1000000 in
theorem iFilterText_any (a : Option Addr) (len cap : Nat) (l : List FilterNodeT) (w : World) (hl : len ≤ 1048576) (hc : len ≤ cap) (hs : SlFilterNode w a len l) (hok : ∀ q ∈ l, FilterNodeT.Ok q) :
    Calls Try.prog 7 #[.slice a len cap] w fun e w' => (∃ s, e = .returned (.string s) ∧ FtIs l s) ∧ Below w.heap.size w w' := by
  have q := hide (filterOf_any a len cap l w hl hc hs hok)
  clear hs hok hc
  go_enter Try.func7, Try.ntmps7
  go_wp2_with fail
  refine (unhide q).mono ?_
  rintro e w1 ⟨⟨v, bb, rfl, h, h2⟩, hb1⟩
  clear q
  cases bb with
  | false =>
    have H : Hid (¬ GFilt l) := hide (fun hh => by have := h.2 hh; cases this)
    clear h h2
    go_wp2_with fail
    go_ret
    exact ⟨⟨_, rfl, .inl ⟨unhide H, rfl⟩⟩, hb1⟩
  | true =>
    have H := hide (h.1 rfl)
    obtain ⟨t, ht, hf⟩ := h2 rfl
    obtain ⟨g1, g2⟩ := (grow_iff 20 _ _ _).1 ht
    have lt' := ft_len (unhide H) g1 g2
    have q2 := hide (text_i 20 w.heap.size t v w1 hf g2 (takeT_ar 20 _ _ _ g1) lt')
    have HG := hide ht
    obtain ⟨T0, u0, rfl⟩ := hf.if_
    have lnA : (tb (ftx 20 t)).size ≤ 100000 := by rw [tb_size]; exact lt'
    obtain ⟨T, hT⟩ : ∃ T, tb (ftx 20 t) = T := ⟨_, rfl⟩
    rw [hT] at q2 lnA
    have HT := hide hT
    have B1 := hide hb1
    clear h h2 hT ht hf g1 g2 lt' hb1
    go_wp2_with fail
    refine (unhide q2).mono ?_
    rintro e w2 ⟨rfl, hb2⟩
    have B2 := hide (bTr (unhide B1) hb2)
    clear q2 hb2 B1
    by_cases hm : 1000 < T.size
    · go_wp2_with fail
      go_ret
      exact ⟨⟨_, rfl, .inr ⟨unhide H, t, unhide HG, by rw [unhide HT, if_pos hm]⟩⟩, unhide B2⟩
    · go_wp2_with fail
      go_ret
      exact ⟨⟨_, rfl, .inr ⟨unhide H, t, unhide HG, by rw [unhide HT, if_neg hm]⟩⟩, unhide B2⟩
end Go.Proofs.Ytlkpeolecfemnaa.V
