/- NPu, NCl, one behind the other. -/
import Derived.Test.YtpfekkhnjaopdaaGreatJ18
import Derived.Test.YtpfekkhnjaopdaaGreatJ23
/- What is above: pure; the map of the things. -/
namespace Go.Proofs.YtpfekkhnjaopdaaGreat.V
set_option linter.unusedSimpArgs false
set_option linter.unusedVariables false
open Go.RowKit Go.Maps

inductive Up (P : AtomT → List AtomT) (a : AtomT) : AtomT → Prop
  | same : Up P a a
  | next {c b : AtomT} : Up P a c → b ∈ P c → Up P a b
theorem Up.head {P : AtomT → List AtomT} {a c b : AtomT} (h : c ∈ P a) (k : Up P c b) : Up P a b := by
  induction k with
  | same => exact .next .same h
  | next _ h2 ih => exact .next ih h2
theorem Up.least {P : AtomT → List AtomT} {a : AtomT} {F : AtomT → Prop} (h0 : F a) (hc : ∀ x, F x → ∀ p ∈ P x, F p) {b : AtomT} (h : Up P a b) : F b := by
  induction h with
  | same => exact h0
  | next _ h2 ih => exact hc _ ih _ h2
open Classical in
/-- How many of U are not in F. -/
noncomputable def cntU (U : List AtomT) (F : AtomT → Prop) : Nat := U.countP fun x => decide (¬ F x)
theorem countP_le_of {α : Type} {p q : α → Bool} : ∀ {l : List α}, (∀ x ∈ l, p x = true → q x = true) → l.countP p ≤ l.countP q
  | [], _ => by simp
  | x :: l, h => by
    have ih := countP_le_of (l := l) (fun y hy => h y (List.mem_cons_of_mem _ hy))
    have hx := h x (List.mem_cons_self ..)
    simp only [List.countP_cons]
    cases hp : p x
    · simp; omega
    · rw [hx hp]; simp; omega
theorem countP_lt_of {α : Type} {p q : α → Bool} : ∀ {l : List α}, (∀ x ∈ l, p x = true → q x = true) → (∃ x ∈ l, p x = false ∧ q x = true) → l.countP p < l.countP q
  | [], _, h => by obtain ⟨x, hx, _⟩ := h; cases hx
  | x :: l, h, hn => by
    have ih := countP_le_of (l := l) (fun y hy => h y (List.mem_cons_of_mem _ hy))
    have hx := h x (List.mem_cons_self ..)
    simp only [List.countP_cons]
    obtain ⟨y, hy, h1, h2⟩ := hn
    rcases List.mem_cons.1 hy with e | hy
    · subst e; rw [h1, h2]; simp; omega
    · have il := countP_lt_of (l := l) (fun z hz => h z (List.mem_cons_of_mem _ hz)) ⟨y, hy, h1, h2⟩
      cases hp : p x
      · simp; omega
      · rw [hx hp]; simp; omega
theorem cntU_add {U : List AtomT} {F : AtomT → Prop} {a : AtomT} (ha : a ∈ U) (hf : ¬ F a) : cntU U (fun p => F p ∨ p = a) + 1 ≤ cntU U F := by
  unfold cntU
  exact countP_lt_of (fun x _ h => by simp at h ⊢; exact h.1) ⟨a, ha, by simp, by simpa using hf⟩
theorem cntU_pos {U : List AtomT} {F : AtomT → Prop} {a : AtomT} (ha : a ∈ U) (hf : ¬ F a) : 0 < cntU U F := by have := cntU_add ha hf; omega
/-- What the map of things holds, told by the things. -/
def thV (e : ThingE) : Value := .agg #[.int .i64 e.t.f0.x, .int .i64 e.t.f0.n, .string e.t.f0.t, .string e.t.f0.y, .slice e.h1.a e.h1.len e.h1.cap, .slice e.h2.a e.h2.len e.h2.cap, .slice e.h3.a e.h3.len e.h3.cap]
def KCA (l : List ThingE) (M : AtomT → Option Value) (C : AtomT → Option ThingE) : Prop := ∀ s, M s = (C s).map thV ∧ ((C s).isSome = true ↔ ∃ e ∈ l, e.t.f0 = s) ∧ ∀ e, C s = some e → e ∈ l ∧ e.t.f0 = s
def parC (C : AtomT → Option ThingE) (a : AtomT) : List AtomT := match C a with | some e => e.t.f1 | none => []
theorem zeroTh (w : World) : (zeroValue 56).run Tryz.prog w = .ok (.agg #[.int .i64 0, .int .i64 0, .string ⟨#[]⟩, .string ⟨#[]⟩, .slice none 0 0, .slice none 0 0, .slice none 0 0]) w := by kernel_rfl
theorem rowGrown {w w' : World} {b : Nat} {C : Array Value} {T : TypeId} {row : Option Nat} (h : RowIs w b C T) (hg : w.grownBy w' row) (hne : some b ≠ row) : RowIs w' b C T := by
  have hl := h.lt
  unfold RowIs at *; rw [hg.block b hl hne]; exact h
end Go.Proofs.YtpfekkhnjaopdaaGreat.V
/- impl.thingIndex: climb. -/
namespace Go.Proofs.YtpfekkhnjaopdaaGreat.V
set_option linter.unusedSimpArgs false
set_option linter.unusedVariables false
open Go.RowKit Go.Maps

/-- What climbing from a leaves of F. -/
structure Climbed (P : AtomT → List AtomT) (a : AtomT) (F F' : AtomT → Prop) : Prop where
  le : ∀ x, F x → F' x
  has : F' a
  up : ∀ x, F' x → F x ∨ Up P a x
  cl : ∀ x, F' x → F x ∨ ∀ p ∈ P x, F' p
theorem AtomT.Ok.okA {a : AtomT} (h : a.Ok) (hx : okI a.x) : OkA a := ⟨hx, okI_of h.n8 h.n9, h.t9, h.y9⟩
theorem grownRefl (w : World) (row : Option Nat) : w.grownBy w row := ⟨rfl, rfl, rfl, Nat.le_refl _, fun _ _ _ => rfl⟩
theorem grownB {w w' : World} (h : Below w.heap.size w w') (row : Option Nat) : w.grownBy w' row := ⟨h.os, h.tape, h.output, h.size, fun j hj _ => h.block j hj⟩
set_option maxRecDepth 20000 in
set_option maxHeartbeats 4000000 in
theorem climb_n (w0 : World) (lt : List ThingE) (M : AtomT → Option Value) (C : AtomT → Option ThingE) (U : List AtomT) (b1 b2 bf n1 N : Nat) (hm0 : ∀ e ∈ lt, ThingM w0 0 e) (hC : KCA lt M C) (hU : ∀ a ∈ U, OkA a) (hUP : ∀ a ∈ U, ∀ p ∈ parC C a, p ∈ U) (hlen : ∀ e ∈ lt, e.t.f1.length ≤ maxLen) (hb1 : b1 ≠ bf) (hbf : w0.heap.size ≤ bf) (hN : N < maxLen) :
    ∀ (fuel : Nat) (a : AtomT) (F : AtomT → Prop) (n : Nat) (w : World), cntU U F ≤ fuel → n + cntU U F ≤ N → a ∈ U → Below w0.heap.size w0 w → KAt w b1 n1 M → KAt w bf n (seA F) →
    Calls Tryz.prog 57 #[.agg #[.map (some b1), .map (some b2)], encA a, .map (some bf)] w fun e w' => e = .returned (.tuple #[]) ∧ w.grownBy w' (some bf) ∧ ∃ F' n', KAt w' bf n' (seA F') ∧ n' + cntU U F' ≤ N ∧ cntU U F' ≤ cntU U F ∧ Climbed (parC C) a F F' := by
  intro fuel
  induction fuel using Nat.strongRecOn with
  | ind fuel ih =>
    intro a F n w hf hnN ha hb hk1 hk
    have IH := hide ih
    clear ih
    have okA := hU a ha
    obtain ⟨W, hW⟩ : ∃ W, W = (w.alloc (.cells #[.map (some b1), .map (some b2)] 61)).alloc (.cells #[.int .i64 a.x, .int .i64 a.n, .string a.t, .string a.y] 31) := ⟨_, rfl⟩
    have bW : Below w.heap.size w W := by rw [hW]; exact bAl (bAl (Below.refl _ _) _) _
    have R1 : Hid (RowIs W w.heap.size #[.map (some b1), .map (some b2)] 61) := hide (by rw [hW]; exact (RowIs.new w _ _).keep (bAl (Below.refl _ _) _))
    have R2 : Hid (RowIs W (w.heap.size + 1) #[.int .i64 a.x, .int .i64 a.n, .string a.t, .string a.y] 31) := hide (by rw [hW]; have := RowIs.new (w.alloc (.cells #[.map (some b1), .map (some b2)] 61)) #[.int .i64 a.x, .int .i64 a.n, .string a.t, .string a.y] 31; simpa using this)
    have zf := hk.lt
    have z1 := hk1.lt
    have KF := hide (hk.keepB bW hk.lt)
    have K1 := hide (hk1.keepB bW hk1.lt)
    have G := hide (grownB bW (some bf))
    have q1 := hide (hasA_any bf n F a W (unhide KF) okA)
    have OA := hide okA
    have HA := hide ha
    have HF := hide hf
    have HN := hide hnN
    have HB := hide hb
    have HW := hide hW.symm
    clear hf hnN ha hb hk1 hk okA hW bW
    unfold encA at q1 ⊢
    go_enter Tryz.func57, Tryz.ntmps57
    go_wp2_with fail
    rw [unhide HW]
    clear HW
    refine (unhide q1).mono ?_
    rintro e w1 ⟨⟨v, rfl, hv⟩, hb1'⟩
    have HV := hide hv
    replace KF := hide ((unhide KF).keepB hb1' (unhide KF).lt)
    replace K1 := hide ((unhide K1).keepB hb1' (unhide K1).lt)
    replace R1 := hide ((unhide R1).keep hb1')
    replace R2 := hide ((unhide R2).keep hb1')
    replace G := hide ((unhide G).trans (grownB hb1' (some bf)))
    clear hb1' hv q1
    cases v
    case true =>
      have hF := hide ((unhide HV).1 rfl)
      clear HV IH
      go_wp2_with fail
      exact bodyPost_ret (v := .tuple #[]) (by simp [results, Tryz.results57, go_sem]) rfl ⟨rfl, unhide G, F, n, unhide KF, unhide HN, Nat.le_refl _, ⟨fun _ h => h, unhide hF, fun _ h => .inl h, fun _ h => .inl h⟩⟩
    have nF : Hid (¬ F a) := hide (fun h => by have := (unhide HV).2 h; cases this)
    have hadd := cntU_add (unhide HA) (unhide nF)
    have hn : n < maxLen := by have := unhide HN; omega
    have q2 := hide (addA_any bf n F a w1 (unhide KF) hn (unhide OA))
    have HAD := hide hadd
    have c0 := (unhide R2).at (o := 0) (v := .int .i64 a.x) rfl
    have c1 := (unhide R2).at (o := 1) (v := .int .i64 a.n) rfl
    have c2 := (unhide R2).at (o := 2) (v := .string a.t) rfl
    have c3 := (unhide R2).at (o := 3) (v := .string a.y) rfl
    clear HV hadd
    unfold encA at q2
    go_wp2_with fail
    refine (unhide q2).mono ?_
    rintro e w2 ⟨rfl, k2, g2⟩
    have nb1 : some w.heap.size ≠ some bf := fun h => by cases h; omega
    have nb2 : some (w.heap.size + 1) ≠ some bf := fun h => by cases h; omega
    replace KF := hide k2
    replace K1 := hide ((unhide K1).kept g2 (by simpa using hb1))
    replace R1 := hide (rowGrown (unhide R1) g2 nb1)
    replace R2 := hide (rowGrown (unhide R2) g2 nb2)
    replace G := hide ((unhide G).trans g2)
    clear k2 g2 q2 c0 c1 c2 c3
    have c0 := (unhide R2).at (o := 0) (v := .int .i64 a.x) rfl
    have c1 := (unhide R2).at (o := 1) (v := .int .i64 a.n) rfl
    have c2 := (unhide R2).at (o := 2) (v := .string a.t) rfl
    have c3 := (unhide R2).at (o := 3) (v := .string a.y) rfl
    have p0 := (unhide R1).at (o := 0) (v := .map (some b1)) rfl
    have p1 := (unhide R1).at (o := 1) (v := .map (some b2)) rfl
    obtain ⟨v, h1, h2, h3, ps, hps, hsl⟩ : ∃ (v : Value) (hd : Hd) (hx1 hx2 : Hd) (ps : List AtomT), ps = parC C a ∧ (SqA w0 0 hd ps ∧ ps.length ≤ maxLen ∧ ∃ x n t y, (M a).getD (.agg #[.int .i64 0, .int .i64 0, .string ⟨#[]⟩, .string ⟨#[]⟩, .slice none 0 0, .slice none 0 0, .slice none 0 0]) = .agg #[.int .i64 x, .int .i64 n, .string t, .string y, .slice hd.a hd.len hd.cap, .slice hx1.a hx1.len hx1.cap, .slice hx2.a hx2.len hx2.cap]) := by
      obtain ⟨e1, e2, e3⟩ := hC a
      refine ⟨.bool false, ?_⟩
      cases hc : C a with
      | none => exact ⟨⟨none, 0, 0⟩, ⟨none, 0, 0⟩, ⟨none, 0, 0⟩, [], by unfold parC; rw [hc], ⟨rfl, .inl rfl⟩, Nat.zero_le _, 0, 0, ⟨#[]⟩, ⟨#[]⟩, by rw [e1, hc]; rfl⟩
      | some e => exact ⟨e.h1, e.h2, e.h3, e.t.f1, by unfold parC; rw [hc], (hm0 e (e3 e hc).1).m1, hlen e (e3 e hc).1, e.t.f0.x, e.t.f0.n, e.t.f0.t, e.t.f0.y, by rw [e1, hc]; rfl⟩
    obtain ⟨hsq, hpl, x', n', t', y', hv⟩ := hsl
    clear v
    have HV := hide hv
    have HSQ := hide hsq
    have HSL := hide hsq.1
    have HPS := hide hps
    have LM : h1.len ≤ maxLen := by rw [hsq.1]; exact hpl
    unfold maxLen at LM
    clear hv hsq hps hpl
    obtain ⟨ha1, hal, hac⟩ := h1
    simp only at LM HSL HV
    have oka := unhide OA
    have hfd : ∀ w : World, (Instr.field 56 (.agg #[.int .i64 x', .int .i64 n', .string t', .string y', .slice ha1 hal hac, .slice h2.a h2.len h2.cap, .slice h3.a h3.len h3.cap]) 1).run Tryz.prog w = .ok (.slice ha1 hal hac) w := fun w => by kernel_rfl
    go_wp2_with (at_lookup; refine wpList_get_km _ kAtom rfl _ _ _ rfl _ Tryz.underlying58 (zeroTh _) b1 n1 _ rfl (unhide K1) a rfl oka _ (unhide HV) ?_)
    clear hfd p0 p1 c0 c1 c2 c3 HV
    have EX : Hid (∃ (Fk : AtomT → Prop) (nk : Nat), KAt w2 bf nk (seA Fk) ∧ nk + cntU U Fk ≤ N ∧ cntU U Fk + 1 ≤ cntU U F ∧ (∀ x, (F x ∨ x = a) → Fk x) ∧ (∀ i (h : i < ps.length), i < 0 → Fk ps[i]) ∧ (∀ x, Fk x → (F x ∨ x = a) ∨ Up (parC C) a x) ∧ ∀ x, Fk x → (F x ∨ x = a) ∨ ∀ p ∈ parC C x, Fk p) := hide ⟨fun p => F p ∨ p = a, n + 1, unhide KF, by have := unhide HN; have := unhide HAD; omega, unhide HAD, fun _ h => h, fun _ _ h => absurd h (Nat.not_lt_zero _), fun _ h => .inl h, fun _ h => .inl h⟩
    go_loopw [20] (fun i w' => ∃ k : Nat, k ≤ hal ∧ i = .int .i64 k ∧ Hid (w.grownBy w' (some bf)) ∧ Hid (RowIs w' w.heap.size #[.map (some b1), .map (some b2)] 61) ∧ Hid (KAt w' b1 n1 M) ∧ Hid (∃ (Fk : AtomT → Prop) (nk : Nat), KAt w' bf nk (seA Fk) ∧ nk + cntU U Fk ≤ N ∧ cntU U Fk + 1 ≤ cntU U F ∧ (∀ x, (F x ∨ x = a) → Fk x) ∧ (∀ i (h : i < ps.length), i < k → Fk ps[i]) ∧ (∀ x, Fk x → (F x ∨ x = a) ∨ Up (parC C) a x) ∧ ∀ x, Fk x → (F x ∨ x = a) ∨ ∀ p ∈ parC C x, Fk p)) (fun i _ => hal - (Go.RowKit.intOf i).toNat)
    case atStart => exact ⟨0, Nat.zero_le _, rfl, G, R1, K1, EX⟩
    case round =>
      clear G R1 R2 K1 EX KF
      obtain ⟨k, hk, rfl, G, R1, K1, EX⟩ := hrel
      by_cases hlt : k < hal
      case neg =>
        have FIN : Hid (∃ F' n', KAt wr bf n' (seA F') ∧ n' + cntU U F' ≤ N ∧ cntU U F' ≤ cntU U F ∧ Climbed (parC C) a F F') := hide (by
          obtain ⟨Fk, nk, e1, e2, e3, e4, e5, e6, e7⟩ := unhide EX
          refine ⟨Fk, nk, e1, e2, by omega, ⟨fun x h => e4 x (.inl h), e4 a (.inr rfl), fun x h => ?_, fun x h => ?_⟩⟩
          · rcases e6 x h with (h | h) | h
            · exact .inl h
            · exact .inr (h ▸ .same)
            · exact .inr h
          · rcases e7 x h with (h | h) | h
            · exact .inl h
            · right
              intro p hp
              rw [h, ← unhide HPS] at hp
              obtain ⟨i, hi, rfl⟩ := List.getElem_of_mem hp
              exact e5 i hi (by have := unhide HSL; omega)
            · exact .inr h)
        clear EX IH
        go_wp2_with fail
        go_end0
        exact ⟨rfl, unhide G, unhide FIN⟩
      have hk' : k < ps.length := by have := unhide HSL; omega
      have HB2 := hide ((unhide HB).grown (unhide G) (unhide HB).size (fun j h => by cases h; exact hbf))
      obtain ⟨bp, off, e1, row⟩ := ((unhide HSQ).keep (unhide HB2)).sl.at hlt
      simp only at e1
      have c0 := (row.c k hk').c0
      have c1 := (row.c k hk').c1
      have c2 := (row.c k hk').c2
      have c3 := (row.c k hk').c3
      have bA : Below wr.heap.size wr (wr.alloc (.cells #[.int .i64 ps[k].x, .int .i64 ps[k].n, .string ps[k].t, .string ps[k].y] 31)) := bAl (Below.refl _ _) _
      have hpk : ps[k] ∈ parC C a := by rw [← unhide HPS]; exact List.getElem_mem hk'
      have hpU := hUP a (unhide HA) _ hpk
      have z1 := (unhide R1).lt
      obtain ⟨Fk, nk, f1, f2, f3, f4, f5, f6, f7⟩ := unhide EX
      have q := hide (unhide IH (fuel - 1) (by have := unhide HF; omega) ps[k] Fk nk _ (by have := unhide HF; omega) f2 hpU (bTr (unhide HB2) bA) ((unhide K1).keepB bA (unhide K1).lt) (f1.keepB bA f1.lt))
      have RA := hide ((unhide R1).keep bA)
      have KA := hide ((unhide K1).keepB bA (unhide K1).lt)
      have GA := hide ((unhide G).trans (grownB bA (some bf)))
      have p0 := (unhide RA).at (o := 0) (v := .map (some b1)) rfl
      have p1 := (unhide RA).at (o := 1) (v := .map (some b2)) rfl
      have STP : Hid (∀ w' F' n', KAt w' bf n' (seA F') → n' + cntU U F' ≤ N → cntU U F' ≤ cntU U Fk → Climbed (parC C) ps[k] Fk F' → ∃ (Fk : AtomT → Prop) (nk : Nat), KAt w' bf nk (seA Fk) ∧ nk + cntU U Fk ≤ N ∧ cntU U Fk + 1 ≤ cntU U F ∧ (∀ x, (F x ∨ x = a) → Fk x) ∧ (∀ i (h : i < ps.length), i < k + 1 → Fk ps[i]) ∧ (∀ x, Fk x → (F x ∨ x = a) ∨ Up (parC C) a x) ∧ ∀ x, Fk x → (F x ∨ x = a) ∨ ∀ p ∈ parC C x, Fk p) := hide (fun w' F' n' g1 g2 g3 g4 => by
        refine ⟨F', n', g1, g2, by omega, fun x h => g4.le x (f4 x h), fun i hi hik => ?_, fun x h => ?_, fun x h => ?_⟩
        · rcases Nat.lt_or_ge i k with h2 | h2
          · exact g4.le _ (f5 i hi h2)
          · obtain rfl : i = k := by omega
            exact g4.has
        · rcases g4.up x h with h | h
          · exact f6 x h
          · exact .inr (Up.head hpk h)
        · rcases g4.cl x h with h | h
          · rcases f7 x h with h | h
            · exact .inl h
            · exact .inr (fun p hp => g4.le p (h p hp))
          · exact .inr h)
      clear row EX hpk hpU f1 f2 f3 f4 f5 f6 f7 bA IH
      generalize ps[k] = pk at *
      subst e1
      unfold encA at q
      go_wp2_with fail
      refine (unhide q).mono ?_
      rintro e w3 ⟨rfl, g3, F', n', g4, g5, g6, g7⟩
      have EN := hide (unhide STP w3 F' n' g4 g5 g6 g7)
      have nb1 : some w.heap.size ≠ some bf := fun h => by cases h; omega
      replace RA := hide (rowGrown (unhide RA) g3 nb1)
      replace KA := hide ((unhide KA).kept g3 (by simpa using hb1))
      replace GA := hide ((unhide GA).trans g3)
      clear g3 g4 g5 g6 g7 q STP c0 c1 c2 c3 p0 p1
      go_wp2_with fail
      exact ⟨⟨k + 1, by omega, by go_num, GA, RA, KA, EN⟩, by simp [Go.RowKit.intOf]; omega⟩
end Go.Proofs.YtpfekkhnjaopdaaGreat.V
