/- spec.l11GoodKind. -/
import Derived.Test.YtkfbecelfkbkkaaZSb
import Derived.Deep.RegionWith
namespace Go.Proofs.Ytkfbecelfkbkkaa.V
set_option linter.unusedSimpArgs false
set_option linter.unusedVariables false
open Go.RowKit

set_option maxRecDepth 20000 in
set_option maxHeartbeats 4000000 in
theorem l11GoodKind_n (h0 h1 : Hd) (ts : List ThingTypeT) (kind : ByteArray) (w : World) (lt : ts.length ≤ maxLen) (hk : kind.size ≤ maxLen) (st : SqThingType w 0 h0 ts) :
    Calls Try.prog 86 #[.agg #[.slice h0.a h0.len h0.cap, .slice h1.a h1.len h1.cap], .string kind] w fun r w' => RetB r (GKind (ts.map (·.f0)) kind) ∧ Below w.heap.size w w' := by
  have q1 := hide (fun (s : ByteArray) (w' : World) (hb : Below w.heap.size w w') => l11ThingType_n h0 h1 ts s w' lt (st.keep hb))
  have q2 := hide (fun w => l11Head_any kind ⟨#[115, 101, 116, 32]⟩ w hk (by show (4 : Nat) ≤ maxLen; unfold maxLen; omega))
  have e1 : hdB kind ⟨#[115, 101, 116, 32]⟩ = hdB kind setP := rfl
  rw [e1] at q2
  clear e1
  have D : Hid (GKind (ts.map (·.f0)) kind ↔ ((hdB (kbase kind) refP = true ∧ rest4 (kbase kind) ∈ ts.map (·.f0)) ∨ (hdB (kbase kind) refP = false ∧ kbase kind ∈ six))) := hide Iff.rfl
  generalize GKind (ts.map (·.f0)) kind = G at D ⊢
  generalize ts.map (·.f0) = ns at D q1
  have R := hide (RowIs.new w #[.slice h0.a h0.len h0.cap, .slice h1.a h1.len h1.cap] 53)
  have B := hide (bAl (Below.refl w.heap.size w) (.cells #[.slice h0.a h0.len h0.cap, .slice h1.a h1.len h1.cap] 53))
  obtain ⟨w1, hw1⟩ : ∃ W, W = w.alloc (.cells #[.slice h0.a h0.len h0.cap, .slice h1.a h1.len h1.cap] 53) := ⟨_, rfl⟩
  rw [← hw1] at R B
  have HW := hide hw1.symm
  have LK := hide hk
  unfold maxLen at hk
  clear lt st hw1
  cases hp : hdB kind setP
  · rw [hp] at q2
    have D2 : Hid (G ↔ ((hdB kind refP = true ∧ rest4 kind ∈ ns) ∨ (hdB kind refP = false ∧ kind ∈ six))) := hide (by have e : kbase kind = kind := (by simp [kbase, hp]); have h := unhide D; rw [e] at h; exact h)
    have zK := unhide LK
    clear D hp
    go_enter Try.func86, Try.ntmps86
    go_wp2_with fail
    rw [unhide HW]
    refine (unhide q2 _).mono ?_
    rintro r w2 ⟨rfl, rfl⟩
    clear q2 HW
    have q4 := hide (fun w => l11Head_any kind ⟨#[114, 101, 102, 32]⟩ w zK (by show (4 : Nat) ≤ maxLen; unfold maxLen; omega))
    have e1 : hdB kind ⟨#[114, 101, 102, 32]⟩ = hdB kind refP := rfl
    rw [e1] at q4
    clear e1
    go_wp2_with fail
    refine (unhide q4 _).mono ?_
    rintro r w2 ⟨rfl, rfl⟩
    clear q4
    cases hr : hdB kind refP
    · have D3 : Hid (G ↔ kind ∈ six) := hide ((unhide D2).trans ⟨fun h => h.elim (fun h => by rw [hr] at h; cases h.1) (fun h => h.2), fun h => .inr ⟨hr, h⟩⟩)
      clear D2 hr
      have R6 := hide (RowIs.new w1 #[.string ⟨#[98, 111, 111, 108]⟩, .string ⟨#[110, 117, 109]⟩, .string ⟨#[116, 101, 120, 116]⟩, .string ⟨#[100, 101, 99]⟩, .string ⟨#[97, 100, 100, 114]⟩, .string ⟨#[116, 105, 109, 101]⟩] 9)
      have B6 := hide (bAl (unhide B) (.cells #[.string ⟨#[98, 111, 111, 108]⟩, .string ⟨#[110, 117, 109]⟩, .string ⟨#[116, 101, 120, 116]⟩, .string ⟨#[100, 101, 99]⟩, .string ⟨#[97, 100, 100, 114]⟩, .string ⟨#[116, 105, 109, 101]⟩] 9))
      have q3 : Hid (Calls Try.prog 115 #[.slice (some ⟨w1.heap.size, 0, none⟩) 6 6, .string kind] (w1.alloc (.cells #[.string ⟨#[98, 111, 111, 108]⟩, .string ⟨#[110, 117, 109]⟩, .string ⟨#[116, 101, 120, 116]⟩, .string ⟨#[100, 101, 99]⟩, .string ⟨#[97, 100, 100, 114]⟩, .string ⟨#[116, 105, 109, 101]⟩] 9)) fun e w' => RetB e (kind ∈ six) ∧ w1.alloc (.cells #[.string ⟨#[98, 111, 111, 108]⟩, .string ⟨#[110, 117, 109]⟩, .string ⟨#[116, 101, 120, 116]⟩, .string ⟨#[100, 101, 99]⟩, .string ⟨#[97, 100, 100, 114]⟩, .string ⟨#[116, 105, 109, 101]⟩] 9) = w') := hide (l3Has_anyY _ 6 6 six kind _ (by omega) ⟨rfl, .inr ⟨_, 0, rfl, (unhide R6).lt, fun i hi => by
        match i, hi with
        | 0, _ => exact (unhide R6).at rfl
        | 1, _ => exact (unhide R6).at rfl
        | 2, _ => exact (unhide R6).at rfl
        | 3, _ => exact (unhide R6).at rfl
        | 4, _ => exact (unhide R6).at rfl
        | 5, _ => exact (unhide R6).at rfl⟩⟩)
      clear R6
      go_wp2_with fail
      refine (unhide q3).mono ?_
      rintro r w4 ⟨⟨b3, rfl, hb3⟩, rfl⟩
      have H3 := hide hb3
      clear hb3 q3
      go_wp2_with fail
      go_ret
      exact ⟨retB (b := b3) ((unhide H3).trans (unhide D3).symm), unhide B6⟩
    · have h4 : 4 < ByteArray.size kind := by unfold hdB at hr; simp only [Bool.and_eq_true, refP_size] at hr; exact of_decide_eq_true hr.1
      have D3 : Hid (G ↔ rest4 kind ∈ ns) := hide ((unhide D2).trans ⟨fun h => h.elim (fun h => h.2) (fun h => by rw [hr] at h; cases h.1), fun h => .inl ⟨hr, h⟩⟩)
      clear D2 hr
      have q5 := hide (unhide q1 (rest4 kind))
      have eR : rest4 kind = ByteArray.extract kind 4 (ByteArray.size kind) := rfl
      rw [eR] at q5 D3
      clear eR
      unfold maxLen at zK
      generalize (ByteArray.extract kind 4 (ByteArray.size kind) ∈ ns) = PP at q5 D3
      have r0 := (unhide R).at (o := 0) (v := .slice h0.a h0.len h0.cap) rfl
      have r1 := (unhide R).at (o := 1) (v := .slice h1.a h1.len h1.cap) rfl
      have zr := (unhide R).lt
      go_wp2_with fail
      go_region_with (first | (go_at_call 84; refine (unhide q5 _ (by first | exact unhide B | exact below_drewN (unhide B) _ | exact bAl (unhide B) _ | exact bAl (below_drewN (unhide B) _) _ | exact below_drewN (bAl (unhide B) _) _)).mono ?_; rintro e w' ⟨⟨x, b, rfl, hv⟩, hb⟩; replace hb := undrew hb; (try (have hz := (RowIs.new w1 #[.string ⟨#[]⟩, .slice none 0 0, .slice none 0 0] 90).keep hb; have k0 := hz.at (o := 0) (v := .string ⟨#[]⟩) rfl; have k1 := hz.at (o := 1) (v := .slice none 0 0) rfl; have k2 := hz.at (o := 2) (v := .slice none 0 0) rfl; have g0 := hz.froz 0; have g1 := hz.froz 1; have g2 := hz.froz 2; clear hz)); have HV := hide hv; have BB := hide hb; clear hv hb))
      all_goals go_wp2_with fail
      all_goals go_ret
      all_goals refine ⟨retB (b := b) ((unhide HV).trans (unhide D3).symm), ?_⟩
      all_goals first
        | exact bAl (bTr (unhide B) (unhide BB)) _
        | (repeat (refine bSt ?_ (by have := (unhide B).size; omega) _ _)
           exact bTr (bAl (unhide B) _) (unhide BB))
  · have h4' : 4 < kind.size := by unfold hdB at hp; simp only [Bool.and_eq_true, setP_size] at hp; exact of_decide_eq_true hp.1
    rw [hp] at q2
    have D2 : Hid (G ↔ ((hdB (rest4 kind) refP = true ∧ rest4 (rest4 kind) ∈ ns) ∨ (hdB (rest4 kind) refP = false ∧ rest4 kind ∈ six))) := hide (by have e : kbase kind = rest4 kind := (by simp [kbase, hp]); have h := unhide D; rw [e] at h; exact h)
    obtain ⟨K, hK⟩ : ∃ K, K = rest4 kind := ⟨_, rfl⟩
    have zK : K.size ≤ maxLen := by rw [hK]; unfold rest4; refine Nat.le_trans ?_ (unhide LK); simp
    rw [← hK] at D2
    have HK : Hid (kind.extract 4 kind.size = K) := hide hK.symm
    clear D hp hK
    go_enter Try.func86, Try.ntmps86
    go_wp2_with fail
    rw [unhide HW]
    refine (unhide q2 _).mono ?_
    rintro r w2 ⟨rfl, rfl⟩
    clear q2 HW
    go_upto_region 3 with fail
    rw [unhide HK]
    clear HK
    have q4 := hide (fun w => l11Head_any K ⟨#[114, 101, 102, 32]⟩ w zK (by show (4 : Nat) ≤ maxLen; unfold maxLen; omega))
    have e1 : hdB K ⟨#[114, 101, 102, 32]⟩ = hdB K refP := rfl
    rw [e1] at q4
    clear e1
    go_wp2_with fail
    refine (unhide q4 _).mono ?_
    rintro r w2 ⟨rfl, rfl⟩
    clear q4
    cases hr : hdB K refP
    · have D3 : Hid (G ↔ K ∈ six) := hide ((unhide D2).trans ⟨fun h => h.elim (fun h => by rw [hr] at h; cases h.1) (fun h => h.2), fun h => .inr ⟨hr, h⟩⟩)
      clear D2 hr
      have R6 := hide (RowIs.new w1 #[.string ⟨#[98, 111, 111, 108]⟩, .string ⟨#[110, 117, 109]⟩, .string ⟨#[116, 101, 120, 116]⟩, .string ⟨#[100, 101, 99]⟩, .string ⟨#[97, 100, 100, 114]⟩, .string ⟨#[116, 105, 109, 101]⟩] 9)
      have B6 := hide (bAl (unhide B) (.cells #[.string ⟨#[98, 111, 111, 108]⟩, .string ⟨#[110, 117, 109]⟩, .string ⟨#[116, 101, 120, 116]⟩, .string ⟨#[100, 101, 99]⟩, .string ⟨#[97, 100, 100, 114]⟩, .string ⟨#[116, 105, 109, 101]⟩] 9))
      have q3 : Hid (Calls Try.prog 115 #[.slice (some ⟨w1.heap.size, 0, none⟩) 6 6, .string K] (w1.alloc (.cells #[.string ⟨#[98, 111, 111, 108]⟩, .string ⟨#[110, 117, 109]⟩, .string ⟨#[116, 101, 120, 116]⟩, .string ⟨#[100, 101, 99]⟩, .string ⟨#[97, 100, 100, 114]⟩, .string ⟨#[116, 105, 109, 101]⟩] 9)) fun e w' => RetB e (K ∈ six) ∧ w1.alloc (.cells #[.string ⟨#[98, 111, 111, 108]⟩, .string ⟨#[110, 117, 109]⟩, .string ⟨#[116, 101, 120, 116]⟩, .string ⟨#[100, 101, 99]⟩, .string ⟨#[97, 100, 100, 114]⟩, .string ⟨#[116, 105, 109, 101]⟩] 9) = w') := hide (l3Has_anyY _ 6 6 six K _ (by omega) ⟨rfl, .inr ⟨_, 0, rfl, (unhide R6).lt, fun i hi => by
        match i, hi with
        | 0, _ => exact (unhide R6).at rfl
        | 1, _ => exact (unhide R6).at rfl
        | 2, _ => exact (unhide R6).at rfl
        | 3, _ => exact (unhide R6).at rfl
        | 4, _ => exact (unhide R6).at rfl
        | 5, _ => exact (unhide R6).at rfl⟩⟩)
      clear R6
      go_wp2_with fail
      refine (unhide q3).mono ?_
      rintro r w4 ⟨⟨b3, rfl, hb3⟩, rfl⟩
      have H3 := hide hb3
      clear hb3 q3
      go_wp2_with fail
      go_ret
      exact ⟨retB (b := b3) ((unhide H3).trans (unhide D3).symm), unhide B6⟩
    · have h4 : 4 < ByteArray.size K := by unfold hdB at hr; simp only [Bool.and_eq_true, refP_size] at hr; exact of_decide_eq_true hr.1
      have D3 : Hid (G ↔ rest4 K ∈ ns) := hide ((unhide D2).trans ⟨fun h => h.elim (fun h => h.2) (fun h => by rw [hr] at h; cases h.1), fun h => .inl ⟨hr, h⟩⟩)
      clear D2 hr
      have q5 := hide (unhide q1 (rest4 K))
      have eR : rest4 K = ByteArray.extract K 4 (ByteArray.size K) := rfl
      rw [eR] at q5 D3
      clear eR
      unfold maxLen at zK
      generalize (ByteArray.extract K 4 (ByteArray.size K) ∈ ns) = PP at q5 D3
      have r0 := (unhide R).at (o := 0) (v := .slice h0.a h0.len h0.cap) rfl
      have r1 := (unhide R).at (o := 1) (v := .slice h1.a h1.len h1.cap) rfl
      have zr := (unhide R).lt
      go_wp2_with fail
      go_region_with (first | (go_at_call 84; refine (unhide q5 _ (by first | exact unhide B | exact below_drewN (unhide B) _ | exact bAl (unhide B) _ | exact bAl (below_drewN (unhide B) _) _ | exact below_drewN (bAl (unhide B) _) _)).mono ?_; rintro e w' ⟨⟨x, b, rfl, hv⟩, hb⟩; replace hb := undrew hb; (try (have hz := (RowIs.new w1 #[.string ⟨#[]⟩, .slice none 0 0, .slice none 0 0] 90).keep hb; have k0 := hz.at (o := 0) (v := .string ⟨#[]⟩) rfl; have k1 := hz.at (o := 1) (v := .slice none 0 0) rfl; have k2 := hz.at (o := 2) (v := .slice none 0 0) rfl; have g0 := hz.froz 0; have g1 := hz.froz 1; have g2 := hz.froz 2; clear hz)); have HV := hide hv; have BB := hide hb; clear hv hb))
      all_goals go_wp2_with fail
      all_goals go_ret
      all_goals refine ⟨retB (b := b) ((unhide HV).trans (unhide D3).symm), ?_⟩
      all_goals first
        | exact bAl (bTr (unhide B) (unhide BB)) _
        | (repeat (refine bSt ?_ (by have := (unhide B).size; omega) _ _)
           exact bTr (bAl (unhide B) _) (unhide BB))
end Go.Proofs.Ytkfbecelfkbkkaa.V
