/- spec.Ancestors. -/
import Derived.Test.YtpfekkhnjaopdaaGreatNIa
import Derived.Test.YtpfekkhnjaopdaaGreatNSh
namespace Go.Proofs.YtpfekkhnjaopdaaGreat.V
set_option linter.unusedSimpArgs false
set_option linter.unusedVariables false
open Go.RowKit Go.Maps

set_option maxRecDepth 20000 in
set_option maxHeartbeats 4000000 in
theorem sAncestors_n (hd : Hd) (lt : List ThingE) (a : AtomT) (w : World) (hn : ∀ e ∈ lt, ThingN e.t) (hl : lt.length ≤ maxLen) (hs : SqThingE w 0 hd lt) (hao : a.Ok) :
    Calls Tryz.prog 7 #[.slice hd.a hd.len hd.cap, encA a] w fun r w' => (∃ v rr, r = .returned v ∧ AncIs (lt.map (·.t)) a rr ∧ w'.ownsRow w.heap.size 31 4 v rr.length (atomsV rr)) ∧ Below w.heap.size w w' := by
  obtain ⟨W, hW⟩ : ∃ W, W = w.alloc (.cells #[.int .i64 a.x, .int .i64 a.n, .string a.t, .string a.y] 31) := ⟨_, rfl⟩
  have bW : Below w.heap.size w W := by rw [hW]; exact bAl (Below.refl _ _) _
  have RA : Hid (RowIs W w.heap.size #[.int .i64 a.x, .int .i64 a.n, .string a.t, .string a.y] 31) := hide (by rw [hW]; exact RowIs.new _ _ _)
  have q1 := hide (sGoodThings_n hd (lt.map (·.t)) W (fun z hz => by obtain ⟨e, he, rfl⟩ := List.mem_map.1 hz; exact hn e he) (by simpa using hl) ⟨lt, rfl, hs.keep bW⟩)
  have q3 := hide (fun (w' : World) => l11Ref_any a w' hao)
  have q4 : Hid (GThs (lt.map (·.t)) → ∀ (w' : World), Below w.heap.size w w' → Calls Tryz.prog 23 #[.slice hd.a hd.len hd.cap, encA a] w' fun r w'' => (∃ v L rr, r = .returned v ∧ (∀ x, x ∈ L ↔ Up (parL (lt.map (·.t))) a x) ∧ SetR L rr ∧ w''.ownsRow w'.heap.size 31 4 v rr.length (atomsV rr)) ∧ Below w'.heap.size w' w'') := hide (fun g w' hb => l12Up_n hd lt a w' g hn hl (hs.keep hb) hao)
  have BW := hide bW
  have HW := hide hW.symm
  clear hn hl hs hao hW bW
  unfold encA at q4 ⊢
  go_enter Tryz.func7, Tryz.ntmps7
  go_wp2_with fail
  rw [unhide HW]
  by_cases hg : GThs (lt.map (·.t))
  case neg =>
    have no : Hid (¬ (GThs (lt.map (·.t)) ∧ refA a = true)) := hide (fun g => hg g.1)
    refine (callsF (unhide q1) hg).mono ?_
    rintro e w1 ⟨rfl, hb⟩
    have B1 := hide (bTr (unhide BW) hb)
    clear hb q1 q3 q4 hg
    go_wp2_with fail
    go_ret
    exact ⟨⟨.slice none 0 0, [], rfl, .inr ⟨unhide no, rfl⟩, ⟨rfl, .inl ⟨rfl, rfl⟩⟩⟩, unhide B1⟩
  refine (callsT (unhide q1) hg).mono ?_
  rintro e w1 ⟨rfl, hb⟩
  have B1 := hide (bTr (unhide BW) hb)
  have R1 := hide ((unhide RA).keep hb)
  have GG := hide hg
  have c0 := (unhide R1).at (o := 0) (v := .int .i64 a.x) rfl
  have c1 := (unhide R1).at (o := 1) (v := .int .i64 a.n) rfl
  have c2 := (unhide R1).at (o := 2) (v := .string a.t) rfl
  have c3 := (unhide R1).at (o := 3) (v := .string a.y) rfl
  clear hb q1 hg HW RA BW
  by_cases hr : refA a = true
  case neg =>
    have no : Hid (¬ (GThs (lt.map (·.t)) ∧ refA a = true)) := hide (fun g => hr g.2)
    have qr := hide (callsF (unhide q3 w1) hr)
    clear hr q3 q4
    go_wp2_with fail
    refine (unhide qr).mono ?_
    rintro e w2 ⟨rfl, hb⟩
    have B2 := hide (bTr (unhide B1) hb)
    clear hb qr c0 c1 c2 c3
    go_wp2_with fail
    go_ret
    exact ⟨⟨.slice none 0 0, [], rfl, .inr ⟨unhide no, rfl⟩, ⟨rfl, .inl ⟨rfl, rfl⟩⟩⟩, unhide B2⟩
  have HRA := hide hr
  have qr := hide (callsT (unhide q3 w1) hr)
  clear hr q3
  go_wp2_with fail
  refine (unhide qr).mono ?_
  rintro e w2 ⟨rfl, hb⟩
  have B2 := hide (bTr (unhide B1) hb)
  have R2 := hide ((unhide R1).keep hb)
  clear hb qr c0 c1 c2 c3
  have c0 := (unhide R2).at (o := 0) (v := .int .i64 a.x) rfl
  have c1 := (unhide R2).at (o := 1) (v := .int .i64 a.n) rfl
  have c2 := (unhide R2).at (o := 2) (v := .string a.t) rfl
  have c3 := (unhide R2).at (o := 3) (v := .string a.y) rfl
  go_wp2_with fail
  refine (unhide q4 (unhide GG) _ (unhide B2)).mono ?_
  rintro e w3 ⟨⟨v, L, rr, rfl, hL, hR, ho⟩, hb⟩
  have LL := hide hL
  have RR := hide hR
  have OO := hide ho
  have B3 := hide (bTr (unhide B2) hb)
  clear hL hR ho hb q4 c0 c1 c2 c3
  go_wp2_with fail
  go_ret
  exact ⟨⟨v, rr, rfl, .inl ⟨unhide GG, unhide HRA, fun x => ((unhide RR).mem x).trans (unhide LL x), (unhide RR).ris⟩, own_base (unhide OO) (unhide B2).size⟩, unhide B3⟩
end Go.Proofs.YtpfekkhnjaopdaaGreat.V
