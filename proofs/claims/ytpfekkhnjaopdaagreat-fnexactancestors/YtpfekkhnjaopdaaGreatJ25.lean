/- NTi, NAn, one behind the other. -/
import Derived.Test.YtpfekkhnjaopdaaGreatJ24
/- impl.thingIndexOf. -/
namespace Go.Proofs.YtpfekkhnjaopdaaGreat.V
set_option linter.unusedSimpArgs false
set_option linter.unusedVariables false
open Go.RowKit Go.Maps

/-- A map with the refs of the first k. -/
def KGA (w : World) (b k : Nat) (l : List ThingE) : Prop := ∃ M, KAt w b k M ∧ (∀ s, (M s).isSome = true ↔ ∃ i, ∃ h : i < l.length, i < k ∧ l[i].t.f0 = s) ∧ ∀ s v, M s = some v → ∃ i, ∃ h : i < l.length, i < k ∧ l[i].t.f0 = s ∧ v = thV l[i]
theorem KGA.keep {w w' : World} {b k : Nat} {l : List ThingE} (h : KGA w b k l) (hb : Below w.heap.size w w') : KGA w' b k l := by obtain ⟨M, h1, h2⟩ := h; exact ⟨M, h1.keepB hb h1.lt, h2⟩
theorem KGA.setCell {w : World} {b k : Nat} {l : List ThingE} (h : KGA w b k l) (b' o' : Nat) (hne : b ≠ b') (u : Value) : KGA (w.setCell ⟨b', o', none⟩ u) b k l := by obtain ⟨M, h1, h2⟩ := h; exact ⟨M, h1.setCell b' o' hne u, h2⟩
theorem kga_step {M : AtomT → Option Value} {l : List ThingE} {k : Nat} (hk : k < l.length) (h : (∀ s, (M s).isSome = true ↔ ∃ i, ∃ h : i < l.length, i < k ∧ l[i].t.f0 = s) ∧ ∀ s v, M s = some v → ∃ i, ∃ h : i < l.length, i < k ∧ l[i].t.f0 = s ∧ v = thV l[i]) :
    (∀ s, (updK M l[k].t.f0 (thV l[k]) s).isSome = true ↔ ∃ i, ∃ h : i < l.length, i < k + 1 ∧ l[i].t.f0 = s) ∧ ∀ s v, updK M l[k].t.f0 (thV l[k]) s = some v → ∃ i, ∃ h : i < l.length, i < k + 1 ∧ l[i].t.f0 = s ∧ v = thV l[i] := by
  constructor
  · intro s
    unfold updK
    by_cases e : s = l[k].t.f0
    · rw [if_pos e]
      exact ⟨fun _ => ⟨k, hk, by omega, e.symm⟩, fun _ => rfl⟩
    · rw [if_neg e, h.1 s]
      constructor
      · rintro ⟨i, hi, h1, h2⟩; exact ⟨i, hi, by omega, h2⟩
      · rintro ⟨i, hi, h1, h2⟩
        refine ⟨i, hi, ?_, h2⟩
        rcases Nat.lt_or_ge i k with h3 | h3
        · exact h3
        · obtain rfl : i = k := by omega
          exact absurd h2.symm e
  · intro s v hv
    unfold updK at hv
    split at hv
    · rename_i e
      cases hv
      exact ⟨k, hk, by omega, e.symm, rfl⟩
    · obtain ⟨i, hi, h1, h2⟩ := h.2 s v hv
      exact ⟨i, hi, by omega, h2⟩
theorem KGA.told {w : World} {b : Nat} {l : List ThingE} (h : KGA w b l.length l) : ∃ M C, KAt w b l.length M ∧ KCA l M C := by
  obtain ⟨M, h1, h2, h3⟩ := h
  have : ∀ s, ∃ o : Option ThingE, M s = o.map thV ∧ (o.isSome = true ↔ ∃ e ∈ l, e.t.f0 = s) ∧ ∀ e, o = some e → e ∈ l ∧ e.t.f0 = s := by
    intro s
    cases hm : M s with
    | none =>
      refine ⟨none, rfl, ⟨fun h => (by cases h), ?_⟩, fun e h => by cases h⟩
      rintro ⟨e, he, hs⟩
      obtain ⟨i, hi, rfl⟩ := List.getElem_of_mem he
      have := (h2 s).2 ⟨i, hi, hi, hs⟩
      rw [hm] at this; cases this
    | some v =>
      obtain ⟨i, hi, _, hs, rfl⟩ := h3 s v hm
      exact ⟨some l[i], rfl, ⟨fun _ => ⟨_, List.getElem_mem hi, hs⟩, fun _ => rfl⟩, fun e h => by cases h; exact ⟨List.getElem_mem hi, hs⟩⟩
  obtain ⟨C, hC⟩ := Classical.axiomOfChoice this
  exact ⟨M, C, h1, hC⟩
theorem refA.ok {A : AtomT} (h : refA A = true) (ho : A.Ok) : OkA A := ho.okA (by
  unfold refA at h
  simp at h
  rw [h.1]
  exact okI_of (by omega) (by omega))
structure TIW (w w' : World) : Prop where
  b : Below w.heap.size w w'
  o : RowIs w' w.heap.size #[.map none, .map none] 61
  x : RowIs w' (w.heap.size + 1 + 1 + 1) #[.map (some (w.heap.size + 1)), .map (some (w.heap.size + 1 + 1))] 61
  k2 : KAt w' (w.heap.size + 1 + 1) 0 (fun _ => none)
theorem TIW.keep {w w' w'' : World} (p : TIW w w') (hb : Below w'.heap.size w' w'') : TIW w w'' := ⟨bTr p.b hb, p.o.keep hb, p.x.keep hb, p.k2.keepB hb p.k2.lt⟩
theorem TIW.grown {w w' w'' : World} (p : TIW w w') (hg : w'.grownBy w'' (some (w.heap.size + 1))) : TIW w w'' :=
  ⟨p.b.grown hg p.b.size (fun j h => by cases h; omega), rowGrown p.o hg (fun h => by have := Option.some.inj h; omega), rowGrown p.x hg (fun h => by have := Option.some.inj h; omega), p.k2.kept hg (fun h => by have := Option.some.inj h; omega)⟩
/-- What thingIndexOf answers. -/
def TIx (w w' : World) (lt : List ThingE) (r : Ending) : Prop := ∃ (b1 b2 : Nat) (ok : Bool), r = .returned (.tuple #[.agg #[.map (some b1), .map (some b2)], .bool ok]) ∧ (ok = true ↔ GThs (lt.map (·.t))) ∧ b1 < b2 ∧ w.heap.size < b1 ∧ (ok = true → KGA w' b1 lt.length lt) ∧ KAt w' b2 0 (fun _ => none)
set_option maxRecDepth 40000 in
set_option maxHeartbeats 8000000 in
theorem thingIndexOf_n (h : Hd) (lt : List ThingE) (w : World) (hn : ∀ e ∈ lt, ThingN e.t) (hl : lt.length ≤ maxLen) (hs : SqThingE w 0 h lt) :
    Calls Tryz.prog 25 #[.slice h.a h.len h.cap] w fun r w' => TIx w w' lt r ∧ Below w.heap.size w w' := by
  have qg := hide (fun (w' : World) (hb : Below w.heap.size w w') => iGoodThings_n h (lt.map (·.t)) w' (fun q hq => by obtain ⟨e, he, rfl⟩ := List.mem_map.1 hq; exact hn e he) (by simpa using hl) ⟨lt, rfl, hs.keep hb⟩)
  have HN := hide hn
  have HL := hide hs.1
  have HT := hide hs
  have OKR : Hid (GThs (lt.map (·.t)) → (∀ e ∈ lt, OkA e.t.f0) ∧ h.len ≤ 100) := hide (fun g => ⟨fun e he => refA.ok (g.1.2 _ (List.mem_map_of_mem he)).1 (hn e he).o0, by have := g.1.1; have := hs.1; simp at *; omega⟩)
  have LM : h.len ≤ maxLen := by rw [hs.1]; exact hl
  unfold maxLen at LM
  generalize hG : GThs (lt.map (·.t)) = G at qg OKR
  have FG := hide hG
  clear hs hn hl hG
  obtain ⟨W0, hW0⟩ : ∃ W, W = (((w.alloc (.cells #[.map none, .map none] 61)).alloc (.map #[] 0)).alloc (.map #[] 0)).alloc (.cells #[.map (some (w.heap.size + 1)), .map (some (w.heap.size + 1 + 1))] 61) := ⟨_, rfl⟩
  have K2 : KAt W0 (w.heap.size + 1 + 1) 0 (fun _ => none) := by
    rw [hW0]
    have k := KM.made Tryz.prog 31 encA ((w.alloc (.cells #[.map none, .map none] 61)).alloc (.map #[] 0))
    have k3 := (k.keepB (bAl (Below.refl _ _) (.cells #[.map (some (w.heap.size + 1)), .map (some (w.heap.size + 1 + 1))] 61)) k.lt)
    simp only [World.size_alloc] at k3
    exact k3
  have K0 : Hid (KGA W0 (w.heap.size + 1) 0 lt) := hide (by
    rw [hW0]
    have k := KM.made Tryz.prog 31 encA (w.alloc (.cells #[.map none, .map none] 61))
    have k2 := (k.keepB (bAl (Below.refl _ _) (.map #[] 0)) k.lt)
    have k3 := (k2.keepB (bAl (Below.refl _ _) (.cells #[.map (some (w.heap.size + 1)), .map (some (w.heap.size + 1 + 1))] 61)) k2.lt)
    simp only [World.size_alloc] at k3
    exact ⟨_, k3, fun s => ⟨fun h => (by cases h), fun ⟨i, _, h, _⟩ => absurd h (Nat.not_lt_zero _)⟩, fun s v h => (by cases h)⟩)
  have P0 : Hid (TIW w W0) := hide (by
    refine ⟨?_, ?_, ?_, K2⟩
    · rw [hW0]; exact bAl (bAl (bAl (bAl (Below.refl _ _) _) _) _) _
    · rw [hW0]; exact (((RowIs.new w _ _).keep (bAl (Below.refl _ _) _)).keep (bAl (Below.refl _ _) _)).keep (bAl (Below.refl _ _) _)
    · rw [hW0]
      have := RowIs.new (((w.alloc (.cells #[.map none, .map none] 61)).alloc (.map #[] 0)).alloc (.map #[] 0)) #[.map (some (w.heap.size + 1)), .map (some (w.heap.size + 1 + 1))] 61
      simpa using this)
  have HW := hide hW0.symm
  have hmm := @run_makeMap Tryz.prog
  clear hW0 K2
  go_enter Tryz.func25, Tryz.ntmps25
  go_wp2_with fail
  rw [unhide HW]
  clear HW hmm
  refine (unhide qg _ (unhide P0).b).mono ?_
  rintro r w1 ⟨⟨v, rfl, hv⟩, hb⟩
  have HO := hide hv
  replace P0 := hide ((unhide P0).keep hb)
  replace K0 := hide ((unhide K0).keep hb)
  clear hb hv qg
  cases v
  case false =>
    have p0 := (unhide P0).x.at (o := 0) (v := .map (some (w.heap.size + 1))) rfl
    have p1 := (unhide P0).x.at (o := 1) (v := .map (some (w.heap.size + 1 + 1))) rfl
    have o0 := (unhide P0).o.at (o := 0) (v := .map none) rfl
    have o1 := (unhide P0).o.at (o := 1) (v := .map none) rfl
    have f0 := (unhide P0).o.froz 0
    have f1 := (unhide P0).o.froz 1
    clear K0 OKR
    go_wp2_with fail
    refine bodyPost_ret (v := .tuple #[.agg #[.map (some (w.heap.size + 1)), .map (some (w.heap.size + 1 + 1))], .bool false]) (by simp [results, Tryz.results25, go_sem, o0, o1]) rfl ⟨⟨_, _, false, rfl, (by rw [unhide FG]; exact unhide HO), by omega, by omega, fun h => (by cases h), ((unhide P0).k2.setCell _ _ (by omega) _).setCell _ _ (by omega) _⟩, ?_⟩
    repeat refine bSt ?_ (by omega) _ _
    exact (unhide P0).b
  have GG := hide ((unhide HO).1 rfl)
  obtain ⟨oks, m100⟩ := unhide OKR (unhide GG)
  have OKS := hide oks
  clear OKR oks HO
  go_wp2_with fail
  go_loopw [16] (fun i w' => ∃ k : Nat, k ≤ h.len ∧ i = .int .i64 k ∧ Hid (TIW w w') ∧ Hid (KGA w' (w.heap.size + 1) k lt)) (fun i _ => h.len - (Go.RowKit.intOf i).toNat)
  case atStart => exact ⟨0, Nat.zero_le _, rfl, P0, K0⟩
  case round =>
    clear P0 K0
    obtain ⟨k, hk, rfl, P0, K0⟩ := hrel
    by_cases hlt : k < h.len
    · have hk' : k < lt.length := by have := unhide HL; omega
      obtain ⟨b, off, e0, hrow⟩ := ((unhide HT).keep (unhide P0).b).at hlt
      have c0 := hrow.c0 k hk'
      have c1 := hrow.c1 k hk'
      have c2 := hrow.c2 k hk'
      have c3 := hrow.c3 k hk'
      have c4 := hrow.c4 k hk'
      have c5 := hrow.c5 k hk'
      have c6 := hrow.c6 k hk'
      have okk := unhide OKS _ (List.getElem_mem hk')
      obtain ⟨M, hM, hi⟩ := unhide K0
      have bA : Below wr.heap.size wr (wr.alloc (.cells #[.int .i64 lt[k].t.f0.x, .int .i64 lt[k].t.f0.n, .string lt[k].t.f0.t, .string lt[k].t.f0.y, .slice lt[k].h1.a lt[k].h1.len lt[k].h1.cap, .slice lt[k].h2.a lt[k].h2.len lt[k].h2.cap, .slice lt[k].h3.a lt[k].h3.len lt[k].h3.cap] 56)) := bAl (Below.refl _ _) _
      have PA := hide ((unhide P0).keep bA)
      have KA := hide (hM.keepB bA hM.lt)
      have px0 := (unhide P0).x.at (o := 0) (v := .map (some (w.heap.size + 1))) rfl
      have zx := (unhide P0).x.lt
      have ST := hide (kga_step (M := M) hk' hi)
      have hkm : k < maxLen := by unfold maxLen; omega
      unfold thV at ST
      clear hrow hM hi bA
      generalize lt[k] = A at *
      generalize h.a = aa at e0 ⊢
      subst e0
      go_wp2_with (at_mapUpdate; refine wpList_put_km _ kAtom rfl _ _ _ _ rfl _ Tryz.underlying58 (w.heap.size + 1) k _ rfl (unhide KA) hkm A.t.f0 (.agg #[.int .i64 A.t.f0.x, .int .i64 A.t.f0.n, .string A.t.f0.t, .string A.t.f0.y, .slice A.h1.a A.h1.len A.h1.cap, .slice A.h2.a A.h2.len A.h2.cap, .slice A.h3.a A.h3.len A.h3.cap]) rfl rfl okk ?_; intro w6 g1 g2 g3)
      exact ⟨⟨k + 1, by omega, by go_num, hide ((unhide PA).grown g2), hide ⟨_, g1, unhide ST⟩⟩, by simp [Go.RowKit.intOf]; omega⟩
    · have ek : k = lt.length := by have := unhide HL; omega
      have KX : Hid (KGA wr (w.heap.size + 1) lt.length lt) := hide (by have := unhide K0; rw [ek] at this; exact this)
      have p0 := (unhide P0).x.at (o := 0) (v := .map (some (w.heap.size + 1))) rfl
      have p1 := (unhide P0).x.at (o := 1) (v := .map (some (w.heap.size + 1 + 1))) rfl
      have o0 := (unhide P0).o.at (o := 0) (v := .map none) rfl
      have o1 := (unhide P0).o.at (o := 1) (v := .map none) rfl
      have f0 := (unhide P0).o.froz 0
      have f1 := (unhide P0).o.froz 1
      clear ek K0
      go_wp2_with fail
      refine bodyPost_ret (v := .tuple #[.agg #[.map (some (w.heap.size + 1)), .map (some (w.heap.size + 1 + 1))], .bool true]) (by simp [results, Tryz.results25, go_sem, o0, o1]) rfl ⟨⟨_, _, true, rfl, ⟨fun _ => by rw [unhide FG]; exact unhide GG, fun _ => rfl⟩, by omega, by omega, fun _ => ((unhide KX).setCell _ _ (by omega) _).setCell _ _ (by omega) _, ((unhide P0).k2.setCell _ _ (by omega) _).setCell _ _ (by omega) _⟩, ?_⟩
      repeat refine bSt ?_ (by omega) _ _
      exact (unhide P0).b
end Go.Proofs.YtpfekkhnjaopdaaGreat.V
/- impl.thingIndex: ancestors. -/
namespace Go.Proofs.YtpfekkhnjaopdaaGreat.V
set_option linter.unusedSimpArgs false
set_option linter.unusedVariables false
open Go.RowKit Go.Maps

theorem seA_none : seA (fun _ => False) = fun _ => none := by funext p; unfold seA; rw [if_neg (fun h => h)]
theorem Climbed.all {P : AtomT → List AtomT} {a : AtomT} {F' : AtomT → Prop} (h : Climbed P a (fun _ => False) F') : ∀ x, F' x ↔ Up P a x := fun x =>
  ⟨fun hx => (h.up x hx).elim (fun h => h.elim) id, fun hx => Up.least h.has (fun y hy p hp => ((h.cl y hy).elim (fun h => h.elim) id) p hp) hx⟩
theorem zeroMp (w : World) : (zeroValue 69).run Tryz.prog w = .ok (.map none) w := by kernel_rfl
/-- What there is to climb. -/
def unU (lt : List ThingE) (a : AtomT) : List AtomT := a :: lt.flatMap (·.t.f1)
theorem unU_par {lt : List ThingE} {M : AtomT → Option Value} {C : AtomT → Option ThingE} (hC : KCA lt M C) {a : AtomT} : ∀ x ∈ unU lt a, ∀ p ∈ parC C x, p ∈ unU lt a := fun x _ p hp => by
  unfold parC at hp
  cases hc : C x with
  | none => rw [hc] at hp; cases hp
  | some e =>
    rw [hc] at hp
    exact List.mem_cons_of_mem _ (List.mem_flatMap.2 ⟨e, ((hC x).2.2 e hc).1, hp⟩)
theorem flat_le {lt : List ThingE} (h : ∀ e ∈ lt, e.t.f1.length ≤ 50) : (lt.flatMap (·.t.f1)).length ≤ lt.length * 50 := by
  induction lt with
  | nil => simp
  | cons e l ih =>
    have h1 := h e (List.mem_cons_self ..)
    have h2 := ih (fun x hx => h x (List.mem_cons_of_mem _ hx))
    simp only [List.flatMap_cons, List.length_append, List.length_cons]
    omega
set_option maxRecDepth 20000 in
set_option maxHeartbeats 4000000 in
theorem ancestors_n (w0 : World) (lt : List ThingE) (M : AtomT → Option Value) (C : AtomT → Option ThingE) (b1 b2 n1 : Nat) (a : AtomT) (w : World) (hm0 : ∀ e ∈ lt, ThingM w0 0 e) (hC : KCA lt M C) (hg : GThs (lt.map (·.t))) (hn : ∀ e ∈ lt, ThingN e.t) (ha : OkA a) (h12 : b1 ≠ b2) (hb : Below w0.heap.size w0 w) (hz2 : w0.heap.size ≤ b2) (hk1 : KAt w b1 n1 M) (hk2 : KAt w b2 0 (fun _ => none)) :
    Calls Tryz.prog 29 #[.agg #[.map (some b1), .map (some b2)], encA a] w fun r w' => ∃ bf n, r = .returned (.map (some bf)) ∧ KAt w' bf n (seA (Up (parC C) a)) ∧ w.grownBy w' (some b2) := by
  have z1 := hk1.lt
  have z2 := hk2.lt
  obtain ⟨W, hW⟩ : ∃ W, W = ((w.alloc (.cells #[.map (some b1), .map (some b2)] 61)).alloc (.cells #[.int .i64 a.x, .int .i64 a.n, .string a.t, .string a.y] 31)).alloc (.map #[] 0) := ⟨_, rfl⟩
  obtain ⟨W', hW'⟩ : ∃ W', W' = (w.alloc (.cells #[.map (some b1), .map (some b2)] 61)).alloc (.cells #[.int .i64 a.x, .int .i64 a.n, .string a.t, .string a.y] 31) := ⟨_, rfl⟩
  have bW' : Below w.heap.size w W' := by rw [hW']; exact bAl (bAl (Below.refl _ _) _) _
  have bW : Below w.heap.size w W := by rw [hW]; exact bAl (bAl (bAl (Below.refl _ _) _) _) _
  have R1 : Hid (RowIs W w.heap.size #[.map (some b1), .map (some b2)] 61) := hide (by rw [hW]; exact ((RowIs.new w _ _).keep (bAl (Below.refl _ _) _)).keep (bAl (Below.refl _ _) _))
  have R2 : Hid (RowIs W (w.heap.size + 1) #[.int .i64 a.x, .int .i64 a.n, .string a.t, .string a.y] 31) := hide (by
    rw [hW]
    have := (RowIs.new (w.alloc (.cells #[.map (some b1), .map (some b2)] 61)) #[.int .i64 a.x, .int .i64 a.n, .string a.t, .string a.y] 31).keep (bAl (Below.refl _ _) (.map #[] 0))
    simpa using this)
  have KF : KAt W (w.heap.size + 1 + 1) 0 (seA (fun _ => False)) := by
    rw [hW, seA_none]
    have k := KM.made Tryz.prog 31 encA ((w.alloc (.cells #[.map (some b1), .map (some b2)] 61)).alloc (.cells #[.int .i64 a.x, .int .i64 a.n, .string a.t, .string a.y] 31))
    simp only [World.size_alloc] at k
    exact k
  have oks : ∀ x ∈ unU lt a, OkA x := fun x hx => by
    rcases List.mem_cons.1 hx with h | h
    · rw [h]; exact ha
    · obtain ⟨e, he, hx⟩ := List.mem_flatMap.1 h
      exact refA.ok ((hg.1.2 _ (List.mem_map_of_mem he)).2.1.2 x hx) ((hn e he).o1 x hx)
  have hlen : (unU lt a).length < maxLen := by
    have h1 := flat_le (lt := lt) (fun e he => (hg.1.2 _ (List.mem_map_of_mem he)).2.1.1)
    have h2 := hg.1.1
    simp at h2
    unfold unU maxLen
    rw [List.length_cons]
    omega
  have hcnt : cntU (unU lt a) (fun _ => False) ≤ (unU lt a).length := by unfold cntU; exact List.countP_le_length
  have q := hide (climb_n w0 lt M C (unU lt a) b1 b2 (w.heap.size + 1 + 1) n1 (unU lt a).length hm0 hC oks (unU_par hC) (fun e he => (hn e he).l1) (by omega) (by have := hb.size; omega) hlen _ a (fun _ => False) 0 W (Nat.le_refl _) (by omega) (List.mem_cons_self ..) (bTr hb bW) (hk1.keepB bW hk1.lt) KF)
  have K2' := hide (hk2.keepB bW' hk2.lt)
  have K2 := hide (hk2.keepB bW hk2.lt)
  have GW := hide (grownB bW (some b2))
  have HW := hide hW.symm
  have HW' := hide hW'.symm
  have hmm := @run_makeMap Tryz.prog
  have ev0 : Hid (((fun _ => none : AtomT → Option Value) a).getD (.map none) = .map none) := hide rfl
  have er0 : Hid (((fun _ => none : AtomT → Option Value) a).isSome = false) := hide rfl
  have HC := hide hcnt
  have zz : W.heap.size = w.heap.size + 1 + 1 + 1 := by rw [hW]; simp
  clear hm0 hC hg hn hb hk1 hk2 KF oks hlen hcnt hW hW' bW bW'
  unfold encA at q ⊢
  go_enter Tryz.func29, Tryz.ntmps29
  go_wp2_with (at_lookup; rw [unhide HW']; refine wpList_look_km _ kAtom rfl _ _ _ rfl _ Tryz.underlying59 (zeroMp _) b2 0 _ rfl (unhide K2') a rfl ha _ _ (unhide ev0) (unhide er0) ?_; rw [← unhide HW'])
  rw [unhide HW]
  refine (unhide q).mono ?_
  rintro e w1 ⟨rfl, g1, F', n', k1, _, _, hcl⟩
  have nb1 : some w.heap.size ≠ some (w.heap.size + 1 + 1) := fun h => by have := Option.some.inj h; omega
  have nb2 : some (w.heap.size + 1) ≠ some (w.heap.size + 1 + 1) := fun h => by have := Option.some.inj h; omega
  have nb3 : some b2 ≠ some (w.heap.size + 1 + 1) := fun h => by have := Option.some.inj h; omega
  replace R1 := hide (rowGrown (unhide R1) g1 nb1)
  replace R2 := hide (rowGrown (unhide R2) g1 nb2)
  replace K2 := hide ((unhide K2).kept g1 nb3)
  have KF := hide k1
  have CL := hide hcl.all
  have gx : Hid (w.grownBy w1 (some b2)) := hide (by
    have g0 := unhide GW
    refine ⟨g1.os.trans g0.os, g1.tape.trans g0.tape, g1.output.trans g0.output, Nat.le_trans g0.size g1.size, fun j hj hne => ?_⟩
    have hj2 : j < W.heap.size := Nat.lt_of_lt_of_le hj g0.size
    rw [g1.block j hj2 (fun h => by have := Option.some.inj h; omega)]
    exact g0.block j hj hne)
  have c0 := (unhide R2).at (o := 0) (v := .int .i64 a.x) rfl
  have c1 := (unhide R2).at (o := 1) (v := .int .i64 a.n) rfl
  have c2 := (unhide R2).at (o := 2) (v := .string a.t) rfl
  have c3 := (unhide R2).at (o := 3) (v := .string a.y) rfl
  have p1 := (unhide R1).at (o := 1) (v := .map (some b2)) rfl
  have hm0 : (0 : Nat) < maxLen := by unfold maxLen; omega
  clear g1 k1 hcl q HW HW' hmm K2' GW HC
  have nc1 : some w.heap.size ≠ some b2 := fun h => by have := Option.some.inj h; omega
  have nc2 : some (w.heap.size + 1) ≠ some b2 := fun h => by have := Option.some.inj h; omega
  have nc3 : some (w.heap.size + 1 + 1) ≠ some b2 := fun h => by have := Option.some.inj h; omega
  have ev : Hid ((updK (fun _ => none : AtomT → Option Value) a (.map (some (w.heap.size + 1 + 1))) a).getD (.map none) = .map (some (w.heap.size + 1 + 1))) := hide (by unfold updK; rw [if_pos rfl]; rfl)
  go_wp2_with (first
    | (at_mapUpdate; refine wpList_put_km _ kAtom rfl _ _ _ _ rfl _ Tryz.underlying59 b2 0 _ rfl (unhide K2) hm0 a (.map (some (w.heap.size + 1 + 1))) rfl rfl ha ?_; intro w2 g1 g2 g3; have S1 := hide (rowGrown (unhide R1) g2 nc1); have S2 := hide (rowGrown (unhide R2) g2 nc2); have KE := hide ((unhide KF).kept g2 nc3); have gy := hide ((unhide gx).trans g2); have K3 := hide g1; have d0 := (unhide S2).at (o := 0) (v := .int .i64 a.x) rfl; have d1 := (unhide S2).at (o := 1) (v := .int .i64 a.n) rfl; have d2 := (unhide S2).at (o := 2) (v := .string a.t) rfl; have d3 := (unhide S2).at (o := 3) (v := .string a.y) rfl; have p2 := (unhide S1).at (o := 1) (v := .map (some b2)) rfl; clear g1 g2 g3)
    | (at_lookup; refine wpList_get_km _ kAtom rfl _ _ _ rfl _ Tryz.underlying59 (zeroMp _) b2 1 _ rfl (unhide K3) a rfl ha _ (unhide ev) ?_))
  go_ret
  exact ⟨_, n', rfl, by rw [← seA_congr (unhide CL)]; exact unhide KE, unhide gy⟩
end Go.Proofs.YtpfekkhnjaopdaaGreat.V
