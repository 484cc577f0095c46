/- impl.changeLog's inOrder. -/
import Derived.Test.YtpdnimchmgbijaaQCm
import Derived.Test.YtpdnimchmgbijaaQSfS
import Derived.Test.YtpdnimchmgbijaaQLw
import Derived.Test.YtpdnimchmgbijaaQNx
import Derived.OwnWalk
namespace Go.Proofs.Ytpdnimchmgbijaa
open Go.RowKit Go.Maps

/-- The map's changes, rising. -/
structure IsOrd (m : CMap) (L : List DcT) : Prop where
  ris : L.Pairwise (fun a b => a.t < b.t ∨ (a.t = b.t ∧ a.o < b.o))
  mem : ∀ c, c ∈ L ↔ m (c.t, c.o) = some c
def MOk (m : CMap) : Prop := ∀ x c, m x = some c → x = (c.t, c.o) ∧ okI x.1 ∧ okI x.2
def gM (m : CMap) (x : Int × Int) : DcT := (m x).getD zDc

theorem addr_plus (b off k : Nat) : (⟨b, off, none⟩ : Addr).add k = ⟨b, off + k, none⟩ := by
  unfold Addr.add; split <;> simp_all
theorem cell_new_at (W : World) (n : Nat) (hn : n = W.heap.size) (C : Array Value) (t : TypeId) (l : List Value) (hl : l = C.toList) : ∀ j u, l[j]? = some u → (W.alloc (.cells C t)).cell? ((⟨n, 0, none⟩ : Addr).add j) = some u := by
  subst hn hl
  intro j u hu
  rw [addr_plus, Nat.zero_add]
  exact (RowIs.new W C t).at (by rw [← Array.getElem?_toList]; exact hu)
theorem info_change : (Try.prog.info? 46).map (fun i => (i.zero, i.size, i.bytes)) = some (some (.agg #[.int .i64 0, .int .i64 0, .int .i64 0, .int .i64 0, .int .i64 0, .string ByteArray.empty, .string ByteArray.empty, .string ByteArray.empty, .string ByteArray.empty]), 9, 104) := by kernel_rfl
theorem dcL_one (A : DcT) : ∀ x ∈ dcL A, x.oneCell' = true := by
  intro x hx
  simp [dcL] at hx
  rcases hx with rfl | rfl | rfl | rfl | rfl | rfl | rfl | rfl | rfl <;> rfl
theorem own_base2 {w : World} {base base' e size n : Nat} {v : Value} {xs : List Value} (h : w.ownsRow base e size v n xs) (hb : base' ≤ base) : w.ownsRow base' e size v n xs := by
  refine ⟨h.1, h.2.imp_right ?_⟩
  rintro ⟨g, cap, cur, e', h1, r⟩
  exact ⟨g, cap, cur, e', Nat.le_trans hb h1, r⟩

theorem nodup_len {α : Type} : ∀ (l l' : List α), l.Nodup → (∀ x ∈ l, x ∈ l') → l.length ≤ l'.length
  | [], _, _, _ => Nat.zero_le _
  | a :: t, l', hn, hs => by
    obtain ⟨s, u, rfl⟩ := List.append_of_mem (hs a (by simp))
    rw [List.nodup_cons] at hn
    have := nodup_len t (s ++ u) hn.2 (fun x hx => by
      have h1 := hs x (by simp [hx])
      simp only [List.mem_append, List.mem_cons] at h1 ⊢
      rcases h1 with h | rfl | h
      · exact .inl h
      · exact absurd hx hn.1
      · exact .inr h)
    simp only [List.length_append, List.length_cons] at this ⊢
    omega
set_option maxRecDepth 100000 in
theorem isOrd_of {D : DataW Value} {m : CMap} {ss : List (Int × Int)} (hD : ∀ x kl, keyOf Try.prog 43 (encS x) = some kl → Maps.has D kl = (m x).isSome ∧ ∀ c, m x = some c → ∀ z, D.atKey kl z = .held (dcV c)) (hm : MOk m) (h : SrtS D ss) :
    IsOrd m (ss.map (gM m)) ∧ ∀ x ∈ ss, m x = some (gM m x) ∧ okI x.1 ∧ okI x.2 := by
  have hx : ∀ x ∈ ss, m x = some (gM m x) := fun x hx => by
    obtain ⟨kl, e, hh⟩ := (h.keys.2 x).1 hx
    rw [(hD x kl e).1] at hh
    unfold gM
    cases hmx : m x with
    | none => rw [hmx] at hh; cases hh
    | some c => rfl
  have hk : ∀ x ∈ ss, x = ((gM m x).t, (gM m x).o) := fun x h1 => (hm x _ (hx x h1)).1
  refine ⟨⟨?_, fun c => ?_⟩, fun x h1 => ⟨hx x h1, (hm x _ (hx x h1)).2⟩⟩
  · rw [List.pairwise_map]
    refine h.ris.imp_of_mem fun {a b} ha hb hab => ?_
    have e1 := hk a ha
    have e2 := hk b hb
    rw [Prod.ext_iff] at e1 e2
    simp only at e1 e2
    omega
  · rw [List.mem_map]
    constructor
    · rintro ⟨x, h1, rfl⟩
      rw [← hk x h1]
      exact hx x h1
    · intro hc
      obtain ⟨_, o1, o2⟩ := hm _ _ hc
      obtain ⟨kl, hkl⟩ := key_stamp c.t c.o o1 o2
      refine ⟨(c.t, c.o), (h.keys.2 _).2 ⟨kl, hkl, by rw [(hD (c.t, c.o) kl hkl).1, hc]; rfl⟩, ?_⟩
      unfold gM
      rw [hc]
      rfl

set_option maxRecDepth 100000 in
set_option maxHeartbeats 2000000 in
theorem inOrder_cm (bv bc n : Nat) (m : CMap) (w : World) (hc : CM w bc n m) (hn : n ≤ 1000000) (hm : MOk m) :
    Calls Try.prog 21 #[.agg #[.map (some bv), .map (some bc)]] w fun e w' => (∃ v L, e = .returned v ∧ IsOrd m L ∧ L.length ≤ n ∧ w'.ownsRow w.heap.size 46 9 v L.length (dcsV L)) ∧ Below w.heap.size w w' := by
  obtain ⟨i0, hi, hz0, hz1, hz2⟩ := info_parts info_change
  obtain ⟨W1, hW1⟩ : ∃ W', W' = w.alloc (.cells #[.map (some bv), .map (some bc)] 52) := ⟨_, rfl⟩
  have HC := hide (show CM W1 bc n m by rw [hW1]; exact hc.kept (World.grownBy_alloc _ _ none) (by simp))
  have hblt := (unhide HC).lt
  have hR := show RowIs W1 w.heap.size #[.map (some bv), .map (some bc)] 52 by rw [hW1]; exact RowIs.new _ _ _
  have HR := hide hR
  have r1 := hR.at (o := 1) (v := .map (some bc)) rfl
  have B1 := hide (show Below w.heap.size w W1 by rw [hW1]; exact bAl (Below.refl _ _) _)
  obtain ⟨D, hown, hD⟩ := unhide HC
  have hsz := hown.size_le
  have qk := hide (fun W => keysOfS (some bc) W)
  have qs := hide (sortedFuncS bc n D W1 hown (by omega))
  have KF := hide (fun (ss : List (Int × Int)) (h : SrtS D ss) => isOrd_of hD hm h)
  have LF := hide (fun (ss : List (Int × Int)) (h : SrtS D ss) => show ss.length ≤ n from by
    obtain ⟨es, e1, hpw, _⟩ := hown.entries lawKS
    obtain ⟨es', e2, hko⟩ := hown.keysOf
    obtain rfl : es = es' := by rw [e1] at e2; simpa using e2
    have hz : Maps.size D = es.length := by rw [e1]; rfl
    obtain ⟨f, hf⟩ : ∃ f : Int × Int → Lit, ∀ x kl, keyOf Try.prog 43 (encS x) = some kl → f x = kl := ⟨fun x => ((keyOf Try.prog 43 (encS x)).getD (.bool true)), fun x kl h => by simp [h]⟩
    have hnd : (ss.map f).Nodup := by
      rw [List.Nodup, List.pairwise_map]
      refine h.keys.1.imp_of_mem fun {a b} ha hb hne e => hne ?_
      obtain ⟨ka, h1, _⟩ := (h.keys.2 a).1 ha
      obtain ⟨kb, h2, _⟩ := (h.keys.2 b).1 hb
      rw [hf a ka h1, hf b kb h2] at e
      exact encS_inj (lawKS.inj h1 (by rw [e]; exact h2))
    have hsub : ∀ y ∈ ss.map f, y ∈ es.map Prod.fst := fun y hy => by
      obtain ⟨x, hx, rfl⟩ := List.mem_map.1 hy
      obtain ⟨kl, h1, h2⟩ := (h.keys.2 x).1 hx
      rw [hf x kl h1]
      rw [e1, has_eq, List.any_eq_true] at h2
      obtain ⟨p, hp, hs⟩ := h2
      rw [← WideAt.sameKey_eq hs]
      exact List.mem_map_of_mem hp
    have := nodup_len _ _ hnd hsub
    rw [List.length_map, List.length_map] at this
    omega)
  clear hown hD hsz hc hR
  have HW1 := hide hW1
  clear hW1
  go_enter Try.func21, Try.ntmps21
  go_wp2_with fail
  rw [← unhide HW1]
  refine (unhide qk _).mono ?_
  rintro e w2 ⟨rfl, rfl⟩
  go_wp2_with fail
  refine (unhide qs).mono ?_
  rintro e w3 ⟨v, ss, rfl, hsrt, hrow, hb3⟩
  have KS := hide (unhide KF ss hsrt)
  have LS := unhide LF ss hsrt
  obtain ⟨a, cap, rfl, hsl⟩ := own_sts (show w3.ownsRow _ 43 2 v ss.length (stsV ss) from hrow)
  have b13 : Below W1.heap.size W1 w3 := bTr (bAl (Below.refl W1.heap.size W1) (.cells #[.map (some bc)] 50)) hb3
  have B3 := hide (bTr (unhide B1) b13)
  have HC3 := hide ((unhide HC).keepB b13 hblt)
  have HR3 := hide ((unhide HR).keep b13)
  have hb9 := (unhide HC3).lt
  have HSL := hide hsl
  clear hsrt hrow hb3 b13 KF LF qs qk HC HR r1 hsl hblt HW1 B1
  generalize hN : ss.length = N at LS HSL ⊢
  have HLN := hide hN
  clear hN
  go_wp2_with fail
  go_loopw [3, 11] (fun v i w' => ∃ k : Nat, k ≤ N ∧ i = .int .i64 k ∧ Hid (w'.ownsRow w3.heap.size 46 9 v ((ss.take k).map (gM m)).length (dcsV ((ss.take k).map (gM m)))) ∧ Hid (Below w3.heap.size w3 w')) (fun _ i _ => N - (Go.RowKit.intOf i).toNat)
  case atStart => exact ⟨0, Nat.zero_le _, rfl, hide (World.ownsRow_nil _ _ _ _), hide (Below.refl _ _)⟩
  case round =>
    obtain ⟨k, hk, rfl, hO, hB⟩ := hrel
    by_cases hlt : k < N
    · have hk' : k < ss.length := by rw [unhide HLN]; exact hlt
      obtain ⟨g, off, rfl, hr⟩ := ((unhide HSL).keep (unhide hB)).at hlt
      have c0 := hr.c0 k hk'
      have c1 := hr.c1 k hk'
      have hx := (unhide KS).2 ss[k] (List.getElem_mem hk')
      have eP := hide (show (ss.take (k + 1)).map (gM m) = (ss.take k).map (gM m) ++ [gM m ss[k]] by rw [List.take_succ_eq_append_getElem hk', List.map_append]; rfl)
      have HCr := hide ((unhide HC3).keepB (unhide hB) hb9)
      have HCa := hide (show ∀ o, CM (wr.alloc o) bc n m from fun o => (unhide HCr).kept (World.grownBy_alloc _ _ none) (by simp))
      have rr := ((unhide HR3).keep (unhide hB)).at (o := 1) (v := .map (some bc)) rfl
      have zr := ((unhide HR3).keep (unhide hB)).lt
      have lnP : ((ss.take k).map (gM m)).length = k := by rw [List.length_map, List.length_take]; omega
      generalize (ss.take k).map (gM m) = V at hO eP lnP
      have HX := hide hx
      clear hr hx
      generalize gM m ss[k] = A at eP HX
      generalize ss[k] = S at c0 c1 HX
      go_wp2_with (first
        | (at_lookup; refine wpList_get_cm _ rfl _ _ rfl bc n m rfl (unhide HCa _) S.1 S.2 rfl (unhide HX).2.1 (unhide HX).2.2 A (unhide HX).1 ?_)
        | (at_builtin; refine wpList_append_own _ rfl _ _ 24 rfl w3.heap.size 46 i0 _ 9 104 Try.underlying24 hi hz0 hz1 hz2 rfl (by decide) _ _ _ rfl (((unhide hO).alloc _).alloc _) ⟨_, 0, none⟩ 1 1 (dcL A) rfl rfl (cell_new_at _ _ (by simp) _ _ _ rfl) (dcL_one A) (by unfold maxLen; omega) (by omega) (by have := (unhide hB).size; simp; omega) ?_; intro u5 x5 hown5 hgrow5 _; have G5 := hide hown5; have B5 := hide (below_append (bAl (unhide hB) _) (Nat.le_refl _) ((unhide hO).alloc _) hgrow5); clear hown5 hgrow5))
      exact ⟨⟨k + 1, by omega, by go_num, hide (by rw [unhide eP, dcsV_snoc, List.length_append]; exact unhide G5), B5⟩, by simp [Go.RowKit.intOf]; omega⟩
    · have e : k = ss.length := by rw [unhide HLN]; omega
      have O9 := hide (show wr.ownsRow w.heap.size 46 9 _ (ss.map (gM m)).length (dcsV (ss.map (gM m))) by have := unhide hO; rw [e, List.take_length] at this; exact own_base2 this (unhide B3).size)
      have B9 := hide (bTr (unhide B3) (unhide hB))
      have L9 := hide (show (ss.map (gM m)).length ≤ n by rw [List.length_map, unhide HLN]; exact LS)
      clear e
      go_wp2_with fail
      go_ret
      exact ⟨⟨_, _, rfl, (unhide KS).1, unhide L9, unhide O9⟩, unhide B9⟩
end Go.Proofs.Ytpdnimchmgbijaa
