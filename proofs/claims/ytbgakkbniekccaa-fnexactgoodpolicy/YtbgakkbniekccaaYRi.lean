/- spec.l10Arity, l10Vars, l3Has; l10Right. -/
import Derived.Test.YtbgakkbniekccaaYTm
import Derived.Test.YtbgakkbniekccaaWKept
import Derived.Deep.CutBlock
import Derived.Deep.DeepCutAuto
namespace Go.Proofs.Ytbgakkbniekccaa.V
open Go.RowKit Go.Maps

theorem ret_intY {a b : Int} (h : a = b) : Ending.returned (.int .i64 b) = .returned (.int .i64 a) := by rw [h]

set_option maxHeartbeats 1000000 in
theorem l10Arity_any (k : Int) (w : World) :
    Calls Try.prog 58 #[.int .i64 k] w fun e w' => e = .returned (.int .i64 (ari k)) ∧ w = w' := by
  by_cases h : k = 1 ∨ k = 3
  · have e : Hid (ari k = 0) := hide (by unfold ari; rw [if_pos h])
    rcases h with rfl | rfl
    all_goals go_enter Try.func58, Try.ntmps58
    all_goals go_wp2_with fail
    all_goals go_ret
    all_goals exact ⟨ret_intY (unhide e), rfl⟩
  by_cases h2 : k = 2
  · have e : Hid (ari k = -2) := hide (by unfold ari; rw [if_neg h, if_pos h2])
    subst h2
    clear h
    go_enter Try.func58, Try.ntmps58
    go_wp2_with fail
    go_ret
    exact ⟨ret_intY (unhide e), rfl⟩
  by_cases h3 : k = 4 ∨ k = 5 ∨ k = 6 ∨ k = 7 ∨ k = 20 ∨ k = 21
  · have e : Hid (ari k = 1) := hide (by unfold ari; rw [if_neg h, if_neg h2, if_pos h3])
    clear h h2
    rcases h3 with rfl | rfl | rfl | rfl | rfl | rfl
    all_goals go_enter Try.func58, Try.ntmps58
    all_goals go_wp2_with fail
    all_goals go_ret
    all_goals exact ⟨ret_intY (unhide e), rfl⟩
  by_cases h4 : k = 10
  · have e : Hid (ari k = 3) := hide (by unfold ari; rw [if_neg h, if_neg h2, if_neg h3, if_pos h4])
    subst h4
    clear h h2 h3
    go_enter Try.func58, Try.ntmps58
    go_wp2_with fail
    go_ret
    exact ⟨ret_intY (unhide e), rfl⟩
  have e : Hid (ari k = if 8 ≤ k ∧ k ≤ 19 then 2 else -1) := hide (by unfold ari; rw [if_neg h, if_neg h2, if_neg h3, if_neg h4])
  simp only [not_or] at h h3
  obtain ⟨a1, a3⟩ := h
  obtain ⟨b4, b5, b6, b7, b20, b21⟩ := h3
  by_cases h5 : 8 ≤ k ∧ k ≤ 19
  · rw [if_pos h5] at e
    obtain ⟨g1, g2⟩ := h5
    go_enter Try.func58, Try.ntmps58
    go_wp2_with fail
    go_ret
    exact ⟨ret_intY (unhide e), rfl⟩
  · rw [if_neg h5] at e
    by_cases g1 : 8 ≤ k
    · have g2 : ¬ k ≤ 19 := fun h => h5 ⟨g1, h⟩
      clear h5
      go_enter Try.func58, Try.ntmps58
      go_wp2_with fail
      go_ret
      exact ⟨ret_intY (unhide e), rfl⟩
    · clear h5
      go_enter Try.func58, Try.ntmps58
      go_wp2_with fail
      go_ret
      exact ⟨ret_intY (unhide e), rfl⟩

theorem str_neY {a b : ByteArray} (h : ¬ a = b) : (ByteArray.toList a == ByteArray.toList b) = false := by
  have : ¬ a.toList = b.toList := fun e => h (by
    rw [ByteArray.toList_eq, ByteArray.toList_eq] at e
    exact Go.WideShapes.bytes_inj e)
  simpa using this
theorem str_eqY (a : ByteArray) : (ByteArray.toList a == ByteArray.toList a) = true := by simp

set_option maxHeartbeats 400000 in
theorem l3Has_anyY (a : Option Addr) (len cap : Nat) (l : List ByteArray) (s : ByteArray) (w : World) (hl : len ≤ 1000000) (hs : SlS w a len l) :
    Calls Try.prog 59 #[.slice a len cap, .string s] w fun e w' => RetB e (s ∈ l) ∧ w = w' := by
  have HS := hide hs
  clear hs
  go_enter Try.func59, Try.ntmps59
  go_wp2_with fail
  go_loopw [9] (fun i wx => ∃ k : Nat, k ≤ len ∧ i = .int .i64 k ∧ Hid (¬ s ∈ l.take k) ∧ wx = w) (fun i _ => len - (Go.RowKit.intOf i).toNat)
  case atStart => exact ⟨0, Nat.zero_le _, rfl, hide (by simp), rfl⟩
  case round =>
    obtain ⟨k, hk, rfl, hn, rfl⟩ := hrel
    by_cases hlt : k < len
    · have hk' : k < l.length := by rw [← (unhide HS).1]; exact hlt
      obtain ⟨b, off, rfl, hrow⟩ := (unhide HS).at hlt
      have c0 := hrow.c k hk'
      have zk := hrow.z
      have eY : Hid (l[k] = s → s ∈ l) := hide (fun e => e ▸ List.getElem_mem hk')
      have eN : Hid (¬ l[k] = s → ¬ s ∈ l.take (k + 1)) := hide (fun e h => by
        rw [List.take_succ_eq_append_getElem hk', List.mem_append, List.mem_singleton] at h
        rcases h with h | h
        · exact unhide hn h
        · exact e h.symm)
      clear hrow
      generalize l[k] = A at c0 eY eN
      by_cases he : A = s
      · replace eY := hide (unhide eY he)
        subst he
        clear eN
        go_wp2_with fail
        go_ret
        exact ⟨retB (b := true) ⟨fun _ => unhide eY, fun _ => rfl⟩, rfl⟩
      · replace eN := hide (unhide eN he)
        have hne := str_neY he
        clear eY he
        go_wp2_with fail
        exact ⟨⟨k + 1, by omega, by go_num, eN, trivial⟩, by simp [Go.RowKit.intOf]; omega⟩
    · have hN : Hid (¬ s ∈ l) := hide (fun h => unhide hn (by rw [List.take_of_length_le (by have := (unhide HS).1; omega)]; exact h))
      go_wp2_with fail
      go_ret
      exact ⟨retB (b := false) ⟨fun h => (by cases h), fun h => absurd h (unhide hN)⟩, rfl⟩


theorem l10Vars_any (w : World) : Calls Try.prog 60 #[] w fun e w' => (∃ a cap, e = .returned (.slice a 4 cap) ∧ SlS w' a 4 [⟨#[112, 114, 105, 110, 99, 105, 112, 97, 108]⟩, ⟨#[97, 99, 116, 105, 111, 110]⟩, ⟨#[114, 101, 115, 111, 117, 114, 99, 101]⟩, ⟨#[99, 111, 110, 116, 101, 120, 116]⟩]) ∧ Below w.heap.size w w' := by
  go_enter Try.func60, Try.ntmps60
  go_wp2_with fail
  go_ret
  refine ⟨⟨_, _, rfl, rfl, .inr ⟨_, _, rfl, ?_⟩⟩, bAl (Below.refl _ _) _⟩
  have R := RowIs.new w #[.string ⟨#[112, 114, 105, 110, 99, 105, 112, 97, 108]⟩, .string ⟨#[97, 99, 116, 105, 111, 110]⟩, .string ⟨#[114, 101, 115, 111, 117, 114, 99, 101]⟩, .string ⟨#[99, 111, 110, 116, 101, 120, 116]⟩] 9
  refine ⟨R.lt, fun i hi => ?_⟩
  match i, hi with
  | 0, _ => exact R.at rfl
  | 1, _ => exact R.at rfl
  | 2, _ => exact R.at rfl
  | 3, _ => exact R.at rfl
theorem var_mem (s : ByteArray) : s ∈ [(⟨#[112, 114, 105, 110, 99, 105, 112, 97, 108]⟩ : ByteArray), ⟨#[97, 99, 116, 105, 111, 110]⟩, ⟨#[114, 101, 115, 111, 117, 114, 99, 101]⟩, ⟨#[99, 111, 110, 116, 101, 120, 116]⟩] ↔ varP s := by
  have h : ∀ l : List UInt8, s = ⟨l.toArray⟩ ↔ s.toList = l := by
    intro l
    constructor
    · rintro rfl; rw [ByteArray.toList_eq]
    · intro e; rw [ByteArray.toList_eq] at e; cases s with
      | mk d => simp at e; subst e; rfl
  unfold varP
  simp only [List.mem_cons, List.not_mem_nil, or_false]
  rw [← h, ← h, ← h, ← h]

/-- All nodes of a tree. -/
inductive AllY (P : ExprT → Prop) : ET → Prop
  | mk {x : ExprT} {ks : List ET} (h : P x) (hk : ∀ k ∈ ks, AllY P k) : AllY P (.node x ks)
theorem AllY.out {P : ExprT → Prop} {x : ExprT} {ks : List ET} (h : AllY P (.node x ks)) : P x ∧ ∀ k ∈ ks, AllY P k := by
  cases h with
  | mk h hk => exact ⟨h, hk⟩
theorem takeK_all {P : ExprT → Prop} {f : List ExprT → Option (ET × List ExprT)} (hf : ∀ l t l', f l = some (t, l') → (∀ q ∈ l, P q) → AllY P t ∧ ∀ q ∈ l', P q) : ∀ (n : Nat) (l : List ExprT) (ks : List ET) (l' : List ExprT), takeK f n l = some (ks, l') → (∀ q ∈ l, P q) → (∀ k ∈ ks, AllY P k) ∧ ∀ q ∈ l', P q
  | 0, l, ks, l', h, hp => by simp [takeK] at h; obtain ⟨rfl, rfl⟩ := h; exact ⟨by simp, hp⟩
  | n + 1, l, ks, l', h, hp => by
    simp only [takeK, Option.bind_eq_some_iff, Option.map_eq_some_iff, Prod.exists, Prod.mk.injEq] at h
    obtain ⟨t, r1, h1, ts, r2, h2, rfl, rfl⟩ := h
    obtain ⟨a1, a2⟩ := hf _ _ _ h1 hp
    obtain ⟨b1, b2⟩ := takeK_all hf n _ _ _ h2 a2
    exact ⟨by simpa using ⟨a1, b1⟩, b2⟩
theorem takeT_all {P : ExprT → Prop} : ∀ (r : Nat) (l : List ExprT) (t : ET) (l' : List ExprT), takeT r l = some (t, l') → (∀ q ∈ l, P q) → AllY P t ∧ ∀ q ∈ l', P q
  | 0, l, t, l', h, _ => by simp [takeT] at h
  | r + 1, [], t, l', h, _ => by simp [takeT] at h
  | r + 1, x :: l, t, l', h, hp => by
    simp only [takeT] at h
    split at h
    · cases h
    · obtain ⟨⟨ks, q⟩, h1, h2⟩ := Option.map_eq_some_iff.1 h
      obtain ⟨rfl, rfl⟩ := by simpa using h2
      obtain ⟨a1, a2⟩ := takeK_all (takeT_all r) _ _ _ _ h1 (fun q hq => hp q (by simp [hq]))
      exact ⟨.mk (hp x (by simp)) a1, a2⟩
theorem right_iff {x : ExprT} {ks : List ET} (h6 : x.f6 = (ks.length : Int)) (h10 : ks.length ≤ 10) : Right (.node x ks) ↔ (ari x.f0 ≠ -1 ∧ (0 ≤ ari x.f0 → (ks.length : Int) = ari x.f0) ∧ (x.f0 = 1 ∨ zEx x)) ∧ txtP x ∧ ∀ k ∈ ks, Right k ∧ (x.f0 ≠ 2 ∨ k.n.f0 = 1) := by
  have hk : ari x.f0 ≠ -1 → (kidP x ↔ (0 ≤ ari x.f0 → (ks.length : Int) = ari x.f0)) := by
    intro hne
    unfold kidP
    by_cases h2 : x.f0 = 2
    · rw [if_pos h2, h2]
      constructor
      · intro _ h; simp [ari] at h
      · intro _; omega
    · rw [if_neg h2, h6]
      have : 0 ≤ ari x.f0 := by
        unfold ari at hne ⊢
        repeat' split
        all_goals (first | omega | simp_all)
      exact ⟨fun h _ => h, fun h => h this⟩
  constructor
  · intro h
    obtain ⟨⟨a1, a2, a3, a4⟩, b, c⟩ := h.out
    exact ⟨⟨a1, (hk a1).1 a2, a3⟩, a4, fun k hk => ⟨b k hk, (Classical.em (x.f0 = 2)).symm.imp_right fun h => c h k hk⟩⟩
  · rintro ⟨⟨a1, a2, a3⟩, a4, b⟩
    exact .mk ⟨a1, (hk a1).2 a2, a3, a4⟩ (fun k hk => (b k hk).1) (fun h k hk => (b k hk).2.resolve_left (fun h' => h' h))
end Go.Proofs.Ytbgakkbniekccaa.V
