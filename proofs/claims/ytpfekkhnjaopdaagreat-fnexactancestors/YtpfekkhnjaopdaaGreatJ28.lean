/- NHg, NSp, one behind the other. -/
import Derived.Test.YtpfekkhnjaopdaaGreatJ27
import Derived.Test.YtpfekkhnjaopdaaGreatJ15
import Derived.BigQuiet
import Derived.Deep.RegionHeld3
import Derived.Test.YtpfekkhnjaopdaaGreatJ17
/- impl.HeadMatches. -/
namespace Go.Proofs.YtpfekkhnjaopdaaGreat.V
set_option linter.unusedSimpArgs false
set_option linter.unusedVariables false
open Go.RowKit Go.Maps

theorem HeadP.ok3 {h : HeadT} (hp : HeadP h) (k3 : h.k = 3) (ho : h.Ok) : OkA (hAt h) := by
  unfold HeadP at hp
  rw [k3] at hp
  simp at hp
  refine ⟨?_, okI_of ho.n8 ho.n9, ho.t9, ho.y9⟩
  show okI h.x
  rw [hp.1]
  exact okI_of (by omega) (by omega)
/-- What HeadMatches says. -/
def HMs (lt : List ThingT) (h : HeadT) (a : AtomT) : Prop := GThs lt ∧ HeadP h ∧ refA a = true ∧ HMat (fun x => match lt.find? (fun t => decide (t.f0 = x)) with | some t => t.f1 | none => []) h a
theorem rise_ne {l : List AtomT} (tr : ∀ x y z : AtomT, x.cmp y < 0 → y.cmp z < 0 → x.cmp z < 0) (ir : ∀ x : AtomT, ¬ x.cmp x < 0) (h : ∀ i (h : i + 1 < l.length), l[i].cmp l[i + 1] < 0) : l.Nodup := by
  have key : ∀ (d i : Nat) (hi : i + d + 1 < l.length), (l[i]'(by omega)).cmp l[i + d + 1] < 0 := by
    intro d
    induction d with
    | zero => exact fun i hi => h i hi
    | succ d ih => exact fun i hi => tr _ _ _ (ih i (by omega)) (h (i + d + 1) (by omega))
  rw [List.Nodup, List.pairwise_iff_getElem]
  intro i j hi hj hij e
  obtain ⟨d, rfl⟩ : ∃ d, j = i + d + 1 := ⟨j - i - 1, by omega⟩
  have := key d i hj
  rw [e] at this
  exact ir _ this
theorem find_of_nodupA {l : List ThingE} (hn : (l.map (·.t.f0)).Nodup) {e : ThingE} (h : e ∈ l) : l.find? (fun c => decide (c.t.f0 = e.t.f0)) = some e := by
  induction l with
  | nil => cases h
  | cons x l ih =>
    simp only [List.map_cons, List.nodup_cons] at hn
    rw [List.find?_cons]
    by_cases hx : x.t.f0 = e.t.f0
    · simp only [hx, decide_true]
      rcases List.mem_cons.1 h with h | h
      · rw [h]
      · exact absurd (by rw [hx]; exact List.mem_map_of_mem h) hn.1
    · simp only [hx, decide_false]
      rcases List.mem_cons.1 h with h | h
      · exact absurd (by rw [h]) hx
      · exact ih hn.2 h
theorem told_find {lt : List ThingE} {M : AtomT → Option Value} {C : AtomT → Option ThingE} (hC : KCA lt M C) (hg : GThs (lt.map (·.t))) : parC C = (fun x => match (lt.map (·.t)).find? (fun t => decide (t.f0 = x)) with | some t => t.f1 | none => []) := by
  have nd : (lt.map (·.t.f0)).Nodup := rise_ne ord_A.tr (fun x => ord_A.irr x) (fun i hi => by
    have := hg.2 i (by simpa using hi)
    simpa using this)
  funext x
  unfold parC
  rw [List.find?_map]
  obtain ⟨_, h2, h3⟩ := hC x
  cases hc : C x with
  | none =>
    have : lt.find? ((fun t : ThingT => decide (t.f0 = x)) ∘ (fun e : ThingE => e.t)) = none := List.find?_eq_none.2 fun e he hd => by
      have := h2.2 ⟨e, he, by simpa using hd⟩
      rw [hc] at this; cases this
    rw [this]; rfl
  | some e =>
    obtain ⟨he, hs⟩ := h3 e hc
    have h4 : lt.find? ((fun t : ThingT => decide (t.f0 = x)) ∘ (fun e : ThingE => e.t)) = some e := by
      rw [← find_of_nodupA nd he, hs]; rfl
    rw [h4]; rfl
set_option maxRecDepth 40000 in
set_option maxHeartbeats 8000000 in
theorem iHeadMatches_n (hd : Hd) (lt : List ThingE) (h : HeadT) (a : AtomT) (w : World) (hn : ∀ e ∈ lt, ThingN e.t) (hl : lt.length ≤ maxLen) (hs : SqThingE w 0 hd lt) (ho : h.Ok) (hao : a.Ok) :
    Calls Tryz.prog 19 #[.slice hd.a hd.len hd.cap, hAgg h, encA a] w fun r w' => RetB r (HMs (lt.map (·.t)) h a) ∧ Below w.heap.size w w' := by
  obtain ⟨W, hW⟩ : ∃ W, W = (w.alloc (.cells #[.int .i64 h.k, .int .i64 h.x, .int .i64 h.n, .string h.t, .string h.y, .string h.ty] 43)).alloc (.cells #[.int .i64 a.x, .int .i64 a.n, .string a.t, .string a.y] 31) := ⟨_, rfl⟩
  have bW : Below w.heap.size w W := by rw [hW]; exact bAl (bAl (Below.refl _ _) _) _
  have HH : Hid (RowIs W w.heap.size #[.int .i64 h.k, .int .i64 h.x, .int .i64 h.n, .string h.t, .string h.y, .string h.ty] 43) := hide (by rw [hW]; exact (RowIs.new w _ _).keep (bAl (Below.refl _ _) _))
  have HR : Hid (RowIs W (w.heap.size + 1) #[.int .i64 a.x, .int .i64 a.n, .string a.t, .string a.y] 31) := hide (by rw [hW]; have := RowIs.new (w.alloc (.cells #[.int .i64 h.k, .int .i64 h.x, .int .i64 h.n, .string h.t, .string h.y, .string h.ty] 43)) #[.int .i64 a.x, .int .i64 a.n, .string a.t, .string a.y] 31; simpa using this)
  have q1 := hide (thingIndexOf_n hd lt W hn hl (hs.keep bW))
  have BW := hide bW
  have HW := hide hW.symm
  have HN := hide hn
  have HS := hide hs
  have HO := hide ho
  have HA := hide hao
  clear hn hl hs ho hao hW bW
  unfold encA
  go_enter Tryz.func19, Tryz.ntmps19
  go_wp2_with fail
  rw [unhide HW]
  refine (unhide q1).mono ?_
  rintro r w1 ⟨⟨b1, b2, ok, rfl, hok, h12, hz1, hkg, hk2⟩, hb⟩
  replace HH := hide ((unhide HH).keep hb)
  replace HR := hide ((unhide HR).keep hb)
  have B1 := hide (bTr (unhide BW) hb)
  have HOK := hide hok
  have HKG := hide hkg
  have HK2 := hide hk2
  have hzW : w.heap.size ≤ W.heap.size := (unhide BW).size
  obtain ⟨WI, hWI⟩ : ∃ X, X = w1.alloc (.cells #[.map (some b1), .map (some b2)] 61) := ⟨_, rfl⟩
  have bI : Below w1.heap.size w1 WI := by rw [hWI]; exact bAl (Below.refl _ _) _
  obtain ⟨bi, hbi⟩ : ∃ b, b = w1.heap.size := ⟨_, rfl⟩
  have HI : Hid (RowIs WI bi #[.map (some b1), .map (some b2)] 61) := hide (by rw [hWI, hbi]; exact RowIs.new _ _ _)
  have zh := (unhide HH).lt
  have zr := (unhide HR).lt
  replace HH := hide ((unhide HH).keep bI)
  replace HR := hide ((unhide HR).keep bI)
  have BI := hide (bTr (unhide B1) bI)
  have HBI := hide bI
  have ZB : Hid (w.heap.size + 1 < b2 ∧ b2 < bi ∧ bi < WI.heap.size) := hide (by
    have e1 := (unhide HK2).lt
    have e2 : W.heap.size = w.heap.size + 1 + 1 := by rw [← unhide HW]; simp
    have e3 := (unhide HI).lt
    exact ⟨by omega, by omega, e3⟩)
  have HWI := hide hWI.symm
  have HBB := hide hbi
  clear q1 hb hok hkg hk2 hWI bI HW BW hbi
  have ne : Nonempty (Kept WI) := ⟨⟨WI, Below.refl _ _⟩⟩
  have kg0 := hide (fun (q : Kept WI) => goodHead_any h q.w (unhide HO))
  have kr0 := hide (fun (q : Kept WI) => isRef_any a q.w (unhide HA))
  have kHH0 := kept_cell (W := WI) (p := ⟨w.heap.size, 0, none⟩) (unhide HH).lt ((unhide HH).at (o := 0) (v := .int .i64 h.k) rfl)
  have kHH1 := kept_cell (W := WI) (p := ⟨w.heap.size, 1, none⟩) (unhide HH).lt ((unhide HH).at (o := 1) (v := .int .i64 h.x) rfl)
  have kHH2 := kept_cell (W := WI) (p := ⟨w.heap.size, 2, none⟩) (unhide HH).lt ((unhide HH).at (o := 2) (v := .int .i64 h.n) rfl)
  have kHH3 := kept_cell (W := WI) (p := ⟨w.heap.size, 3, none⟩) (unhide HH).lt ((unhide HH).at (o := 3) (v := .string h.t) rfl)
  have kHH4 := kept_cell (W := WI) (p := ⟨w.heap.size, 4, none⟩) (unhide HH).lt ((unhide HH).at (o := 4) (v := .string h.y) rfl)
  have kHH5 := kept_cell (W := WI) (p := ⟨w.heap.size, 5, none⟩) (unhide HH).lt ((unhide HH).at (o := 5) (v := .string h.ty) rfl)
  have kHR0 := kept_cell (W := WI) (p := ⟨w.heap.size + 1, 0, none⟩) (unhide HR).lt ((unhide HR).at (o := 0) (v := .int .i64 a.x) rfl)
  have kHR1 := kept_cell (W := WI) (p := ⟨w.heap.size + 1, 1, none⟩) (unhide HR).lt ((unhide HR).at (o := 1) (v := .int .i64 a.n) rfl)
  have kHR2 := kept_cell (W := WI) (p := ⟨w.heap.size + 1, 2, none⟩) (unhide HR).lt ((unhide HR).at (o := 2) (v := .string a.t) rfl)
  have kHR3 := kept_cell (W := WI) (p := ⟨w.heap.size + 1, 3, none⟩) (unhide HR).lt ((unhide HR).at (o := 3) (v := .string a.y) rfl)
  have kHI0 := kept_cell (W := WI) (p := ⟨bi, 0, none⟩) (unhide HI).lt ((unhide HI).at (o := 0) (v := .map (some b1)) rfl)
  have kHI1 := kept_cell (W := WI) (p := ⟨bi, 1, none⟩) (unhide HI).lt ((unhide HI).at (o := 1) (v := .map (some b2)) rfl)
  cases ok
  case false =>
    have no : Hid (¬ HMs (lt.map (·.t)) h a) := hide (fun g => by have := (unhide HOK).2 g.1; cases this)
    have kg := kg0
    have kr := kr0
    clear HKG HOK
    go_wp2_with fail
    rw [unhide HWI]
    refine wp_region_kept (by kernel_rfl) (by kernel_rfl) ?_
    repeat (first
      | go_big_quiet_step (first | (go_at_call 38; with_reducible exact kept_call (unhide kg _)) | (go_at_call 26; with_reducible exact kept_call (unhide kr _)))
      | quiet_step (first | (go_at_call 38; with_reducible exact kept_call (unhide kg _)) | (go_at_call 26; with_reducible exact kept_call (unhide kr _))))
    refine wpQuiet_nil ?_
    rintro _ ⟨q, rfl⟩
    go_wp2_with fail
    go_ret
    exact ⟨retB (b := false) ⟨fun h => (by cases h), fun h => absurd h (unhide no)⟩, bTr (unhide BI) q.h⟩
  have GG := hide ((unhide HOK).1 rfl)
  have KG1 := hide (unhide HKG rfl)
  clear HOK HKG
  by_cases hp : HeadP h
  case neg =>
    have no : Hid (¬ HMs (lt.map (·.t)) h a) := hide (fun g => hp g.2.1)
    have kg := hide (fun (q : Kept WI) => callsF (unhide kg0 q) hp)
    have kr := kr0
    clear hp kg0 kr0
    go_wp2_with fail
    rw [unhide HWI]
    refine wp_region_kept (by kernel_rfl) (by kernel_rfl) ?_
    repeat (first
      | go_big_quiet_step (first | (go_at_call 38; with_reducible exact kept_call (unhide kg _)) | (go_at_call 26; with_reducible exact kept_call (unhide kr _)))
      | quiet_step (first | (go_at_call 38; with_reducible exact kept_call (unhide kg _)) | (go_at_call 26; with_reducible exact kept_call (unhide kr _))))
    refine wpQuiet_nil ?_
    rintro _ ⟨q, rfl⟩
    go_wp2_with fail
    go_ret
    exact ⟨retB (b := false) ⟨fun h => (by cases h), fun h => absurd h (unhide no)⟩, bTr (unhide BI) q.h⟩
  by_cases hr : refA a = true
  case neg =>
    have no : Hid (¬ HMs (lt.map (·.t)) h a) := hide (fun g => hr g.2.2.1)
    have kg := hide (fun (q : Kept WI) => callsT (unhide kg0 q) hp)
    have kr := hide (fun (q : Kept WI) => callsF (unhide kr0 q) hr)
    clear hp hr kg0 kr0
    go_wp2_with fail
    rw [unhide HWI]
    refine wp_region_kept (by kernel_rfl) (by kernel_rfl) ?_
    repeat (first
      | go_big_quiet_step (first | (go_at_call 38; with_reducible exact kept_call (unhide kg _)) | (go_at_call 26; with_reducible exact kept_call (unhide kr _)))
      | quiet_step (first | (go_at_call 38; with_reducible exact kept_call (unhide kg _)) | (go_at_call 26; with_reducible exact kept_call (unhide kr _))))
    refine wpQuiet_nil ?_
    rintro _ ⟨q, rfl⟩
    go_wp2_with fail
    go_ret
    exact ⟨retB (b := false) ⟨fun h => (by cases h), fun h => absurd h (unhide no)⟩, bTr (unhide BI) q.h⟩
  have qg := hide (fun (w' : World) (_ : Below WI.heap.size WI w') => callsT (goodHead_any h w' (unhide HO)) hp)
  have qr := hide (fun (w' : World) (_ : Below WI.heap.size WI w') => callsT (isRef_any a w' (unhide HA)) hr)
  obtain ⟨M, C, hM, hC⟩ := (unhide KG1).told
  have D : Hid (HMs (lt.map (·.t)) h a ↔ HMat (parC C) h a) := hide (by
    unfold HMs
    rw [told_find hC (unhide GG)]
    exact ⟨fun g => g.2.2.2, fun g => ⟨unhide GG, hp, hr, g⟩⟩)
  have q3 : Hid (h.k = 3 → ∀ (w' : World) (hb : Below WI.heap.size WI w') (bx bh : Nat), RowIs w' bx #[.map (some b1), .map (some b2)] 61 → RowIs w' bh #[.int .i64 h.k, .int .i64 h.x, .int .i64 h.n, .string h.t, .string h.y, .string h.ty] 43 → bx ≠ b2 → bh ≠ b2 → Calls Tryz.prog 67 #[encA a, .pointer (some ⟨bx, 0, none⟩), .pointer (some ⟨bh, 0, none⟩)] w' fun e w'' => RetB e (Up (parC C) a (hAt h)) ∧ w'.grownBy w'' (some b2)) := hide (fun k3 w' hb bx bh rx rh nx nh =>
    t3_any w lt M C b1 b2 lt.length h bx bh a w' (unhide HS).2.2 hC (unhide GG) (unhide HN) (refA.ok hr (unhide HA)) (HeadP.ok3 hp k3 (unhide HO)) (by omega) (bTr (unhide BI) hb) (by have := (unhide ZB).1; omega) ((hM.keepB (unhide HBI) hM.lt).keepB hb (hM.keepB (unhide HBI) hM.lt).lt) (((unhide HK2).keepB (unhide HBI) (unhide HK2).lt).keepB hb ((unhide HK2).keepB (unhide HBI) (unhide HK2).lt).lt) rx rh nx nh)
  have Y0 := hide (And.intro (((unhide HH)).at (o := 0) (v := .int .i64 h.k) rfl) (And.intro (((unhide HH)).at (o := 1) (v := .int .i64 h.x) rfl) (And.intro (((unhide HH)).at (o := 2) (v := .int .i64 h.n) rfl) (And.intro (((unhide HH)).at (o := 3) (v := .string h.t) rfl) (And.intro (((unhide HH)).at (o := 4) (v := .string h.y) rfl) (And.intro (((unhide HH)).at (o := 5) (v := .string h.ty) rfl) (And.intro (((unhide HR)).at (o := 0) (v := .int .i64 a.x) rfl) (And.intro (((unhide HR)).at (o := 1) (v := .int .i64 a.n) rfl) (And.intro (((unhide HR)).at (o := 2) (v := .string a.t) rfl) (And.intro (((unhide HR)).at (o := 3) (v := .string a.y) rfl) (And.intro (((unhide HI)).at (o := 0) (v := .map (some b1)) rfl) (((unhide HI)).at (o := 1) (v := .map (some b2)) rfl))))))))))))
  have qt0 := hide (fun w' => testOf_any b1 b2 h w')
  clear hM hC hp hr KG1 GG kg0 kr0 ne kHH0 kHH1 kHH2 kHH3 kHH4 kHH5 kHR0 kHR1 kHR2 kHR3 kHI0 kHI1
  by_cases k1 : h.k = 1
  · have qt : Hid (∀ w', Calls Tryz.prog 39 #[.agg #[.map (some b1), .map (some b2)], hAgg h] w' fun e w'' => e = .returned (.func (.func 65) #[] #[]) ∧ RowIs w'' w'.heap.size #[.map (some b1), .map (some b2)] 61 ∧ RowIs w'' (w'.heap.size + 1) #[.int .i64 h.k, .int .i64 h.x, .int .i64 h.n, .string h.t, .string h.y, .string h.ty] 43 ∧ Below w'.heap.size w' w'') := hide (fun w' => by
      have e1 : tst h.k w'.heap.size (w'.heap.size + 1) = .func (.func 65) #[] #[] := by unfold tst; simp [k1]
      rw [← e1]; exact unhide qt0 w')
    have D1 : Hid (HMs (lt.map (·.t)) h a ↔ True) := hide ((unhide D).trans (by unfold HMat; simp [k1]))
    clear q3
    clear D qt0 k1
    go_wp2_with fail
    rw [unhide HWI, ← unhide HBB]
    go_region_held3 (fun w' => w'.cell? ⟨w.heap.size, 0, none⟩ = some (.int .i64 h.k) ∧ w'.cell? ⟨w.heap.size, 1, none⟩ = some (.int .i64 h.x) ∧ w'.cell? ⟨w.heap.size, 2, none⟩ = some (.int .i64 h.n) ∧ w'.cell? ⟨w.heap.size, 3, none⟩ = some (.string h.t) ∧ w'.cell? ⟨w.heap.size, 4, none⟩ = some (.string h.y) ∧ w'.cell? ⟨w.heap.size, 5, none⟩ = some (.string h.ty) ∧ w'.cell? ⟨w.heap.size + 1, 0, none⟩ = some (.int .i64 a.x) ∧ w'.cell? ⟨w.heap.size + 1, 1, none⟩ = some (.int .i64 a.n) ∧ w'.cell? ⟨w.heap.size + 1, 2, none⟩ = some (.string a.t) ∧ w'.cell? ⟨w.heap.size + 1, 3, none⟩ = some (.string a.y) ∧ w'.cell? ⟨bi, 0, none⟩ = some (.map (some b1)) ∧ w'.cell? ⟨bi, 1, none⟩ = some (.map (some b2)))
      (first | exact unhide Y0 | exact unhide Ya | exact unhide Yb | exact unhide Yc | exact unhide Yd)
      (first
        | (go_at_call 38; refine (unhide qg _ (Below.refl _ _).drew).mono ?_; rintro e wa ⟨rfl, hba⟩; replace hba := undrew hba; have HHa := hide ((unhide HH).keep hba); have HRa := hide ((unhide HR).keep hba); have HIa := hide ((unhide HI).keep hba); have Ya := hide (And.intro (((unhide HHa)).at (o := 0) (v := .int .i64 h.k) rfl) (And.intro (((unhide HHa)).at (o := 1) (v := .int .i64 h.x) rfl) (And.intro (((unhide HHa)).at (o := 2) (v := .int .i64 h.n) rfl) (And.intro (((unhide HHa)).at (o := 3) (v := .string h.t) rfl) (And.intro (((unhide HHa)).at (o := 4) (v := .string h.y) rfl) (And.intro (((unhide HHa)).at (o := 5) (v := .string h.ty) rfl) (And.intro (((unhide HRa)).at (o := 0) (v := .int .i64 a.x) rfl) (And.intro (((unhide HRa)).at (o := 1) (v := .int .i64 a.n) rfl) (And.intro (((unhide HRa)).at (o := 2) (v := .string a.t) rfl) (And.intro (((unhide HRa)).at (o := 3) (v := .string a.y) rfl) (And.intro (((unhide HIa)).at (o := 0) (v := .map (some b1)) rfl) (((unhide HIa)).at (o := 1) (v := .map (some b2)) rfl)))))))))))); have Ba := hide hba; clear hba)
        | (go_at_call 26; refine (unhide qr _ (unhide Ba)).mono ?_; rintro e wb ⟨rfl, hbb⟩; have HHb := hide ((unhide HHa).keep hbb); have HRb := hide ((unhide HRa).keep hbb); have HIb := hide ((unhide HIa).keep hbb); have Yb := hide (And.intro (((unhide HHb)).at (o := 0) (v := .int .i64 h.k) rfl) (And.intro (((unhide HHb)).at (o := 1) (v := .int .i64 h.x) rfl) (And.intro (((unhide HHb)).at (o := 2) (v := .int .i64 h.n) rfl) (And.intro (((unhide HHb)).at (o := 3) (v := .string h.t) rfl) (And.intro (((unhide HHb)).at (o := 4) (v := .string h.y) rfl) (And.intro (((unhide HHb)).at (o := 5) (v := .string h.ty) rfl) (And.intro (((unhide HRb)).at (o := 0) (v := .int .i64 a.x) rfl) (And.intro (((unhide HRb)).at (o := 1) (v := .int .i64 a.n) rfl) (And.intro (((unhide HRb)).at (o := 2) (v := .string a.t) rfl) (And.intro (((unhide HRb)).at (o := 3) (v := .string a.y) rfl) (And.intro (((unhide HIb)).at (o := 0) (v := .map (some b1)) rfl) (((unhide HIb)).at (o := 1) (v := .map (some b2)) rfl)))))))))))); have Bb := hide (bTr (unhide Ba) hbb); clear hbb)
        | (go_at_call 39; refine (unhide qt _).mono ?_; rintro e wc ⟨rfl, rx, rh, hbc⟩; have HHc := hide ((unhide HHb).keep hbc); have HRc := hide ((unhide HRb).keep hbc); have HIc := hide ((unhide HIb).keep hbc); have Yc := hide (And.intro (((unhide HHc)).at (o := 0) (v := .int .i64 h.k) rfl) (And.intro (((unhide HHc)).at (o := 1) (v := .int .i64 h.x) rfl) (And.intro (((unhide HHc)).at (o := 2) (v := .int .i64 h.n) rfl) (And.intro (((unhide HHc)).at (o := 3) (v := .string h.t) rfl) (And.intro (((unhide HHc)).at (o := 4) (v := .string h.y) rfl) (And.intro (((unhide HHc)).at (o := 5) (v := .string h.ty) rfl) (And.intro (((unhide HRc)).at (o := 0) (v := .int .i64 a.x) rfl) (And.intro (((unhide HRc)).at (o := 1) (v := .int .i64 a.n) rfl) (And.intro (((unhide HRc)).at (o := 2) (v := .string a.t) rfl) (And.intro (((unhide HRc)).at (o := 3) (v := .string a.y) rfl) (And.intro (((unhide HIc)).at (o := 0) (v := .map (some b1)) rfl) (((unhide HIc)).at (o := 1) (v := .map (some b2)) rfl)))))))))))); have Bc := hide (bTr (unhide Bb) hbc); have TX := hide rx; have TH := hide rh; clear hbc rx rh)
        | (go_at_call 65; refine (t1_any a _).mono ?_; rintro e wd ⟨rfl, hbd⟩; have HHd := hide ((unhide HHc).keep hbd); have HRd := hide ((unhide HRc).keep hbd); have HId := hide ((unhide HIc).keep hbd); have Yd := hide (And.intro (((unhide HHd)).at (o := 0) (v := .int .i64 h.k) rfl) (And.intro (((unhide HHd)).at (o := 1) (v := .int .i64 h.x) rfl) (And.intro (((unhide HHd)).at (o := 2) (v := .int .i64 h.n) rfl) (And.intro (((unhide HHd)).at (o := 3) (v := .string h.t) rfl) (And.intro (((unhide HHd)).at (o := 4) (v := .string h.y) rfl) (And.intro (((unhide HHd)).at (o := 5) (v := .string h.ty) rfl) (And.intro (((unhide HRd)).at (o := 0) (v := .int .i64 a.x) rfl) (And.intro (((unhide HRd)).at (o := 1) (v := .int .i64 a.n) rfl) (And.intro (((unhide HRd)).at (o := 2) (v := .string a.t) rfl) (And.intro (((unhide HRd)).at (o := 3) (v := .string a.y) rfl) (And.intro (((unhide HId)).at (o := 0) (v := .map (some b1)) rfl) (((unhide HId)).at (o := 1) (v := .map (some b2)) rfl)))))))))))); have Bd := hide (bTr (unhide Bc) hbd); clear hbd))
    go_wp2_with fail
    go_ret
    exact ⟨retB (b := true) ⟨fun _ => (unhide D1).2 trivial, fun _ => rfl⟩, bTr (unhide BI) (unhide Bd)⟩
  by_cases k2 : h.k = 2
  · have qt : Hid (∀ w', Calls Tryz.prog 39 #[.agg #[.map (some b1), .map (some b2)], hAgg h] w' fun e w'' => e = .returned (.func (.func 66) #[] #[.pointer (some ⟨w'.heap.size + 1, 0, none⟩)]) ∧ RowIs w'' w'.heap.size #[.map (some b1), .map (some b2)] 61 ∧ RowIs w'' (w'.heap.size + 1) #[.int .i64 h.k, .int .i64 h.x, .int .i64 h.n, .string h.t, .string h.y, .string h.ty] 43 ∧ Below w'.heap.size w' w'') := hide (fun w' => by
      have e1 : tst h.k w'.heap.size (w'.heap.size + 1) = .func (.func 66) #[] #[.pointer (some ⟨w'.heap.size + 1, 0, none⟩)] := by unfold tst; simp [k2]
      rw [← e1]; exact unhide qt0 w')
    have D1 : Hid (HMs (lt.map (·.t)) h a ↔ a = hAt h) := hide ((unhide D).trans (by unfold HMat; simp [k2]))
    clear q3
    clear D qt0 k2
    go_wp2_with fail
    rw [unhide HWI, ← unhide HBB]
    go_region_held3 (fun w' => w'.cell? ⟨w.heap.size, 0, none⟩ = some (.int .i64 h.k) ∧ w'.cell? ⟨w.heap.size, 1, none⟩ = some (.int .i64 h.x) ∧ w'.cell? ⟨w.heap.size, 2, none⟩ = some (.int .i64 h.n) ∧ w'.cell? ⟨w.heap.size, 3, none⟩ = some (.string h.t) ∧ w'.cell? ⟨w.heap.size, 4, none⟩ = some (.string h.y) ∧ w'.cell? ⟨w.heap.size, 5, none⟩ = some (.string h.ty) ∧ w'.cell? ⟨w.heap.size + 1, 0, none⟩ = some (.int .i64 a.x) ∧ w'.cell? ⟨w.heap.size + 1, 1, none⟩ = some (.int .i64 a.n) ∧ w'.cell? ⟨w.heap.size + 1, 2, none⟩ = some (.string a.t) ∧ w'.cell? ⟨w.heap.size + 1, 3, none⟩ = some (.string a.y) ∧ w'.cell? ⟨bi, 0, none⟩ = some (.map (some b1)) ∧ w'.cell? ⟨bi, 1, none⟩ = some (.map (some b2)))
      (first | exact unhide Y0 | exact unhide Ya | exact unhide Yb | exact unhide Yc | exact unhide Yd)
      (first
        | (go_at_call 38; refine (unhide qg _ (Below.refl _ _).drew).mono ?_; rintro e wa ⟨rfl, hba⟩; replace hba := undrew hba; have HHa := hide ((unhide HH).keep hba); have HRa := hide ((unhide HR).keep hba); have HIa := hide ((unhide HI).keep hba); have Ya := hide (And.intro (((unhide HHa)).at (o := 0) (v := .int .i64 h.k) rfl) (And.intro (((unhide HHa)).at (o := 1) (v := .int .i64 h.x) rfl) (And.intro (((unhide HHa)).at (o := 2) (v := .int .i64 h.n) rfl) (And.intro (((unhide HHa)).at (o := 3) (v := .string h.t) rfl) (And.intro (((unhide HHa)).at (o := 4) (v := .string h.y) rfl) (And.intro (((unhide HHa)).at (o := 5) (v := .string h.ty) rfl) (And.intro (((unhide HRa)).at (o := 0) (v := .int .i64 a.x) rfl) (And.intro (((unhide HRa)).at (o := 1) (v := .int .i64 a.n) rfl) (And.intro (((unhide HRa)).at (o := 2) (v := .string a.t) rfl) (And.intro (((unhide HRa)).at (o := 3) (v := .string a.y) rfl) (And.intro (((unhide HIa)).at (o := 0) (v := .map (some b1)) rfl) (((unhide HIa)).at (o := 1) (v := .map (some b2)) rfl)))))))))))); have Ba := hide hba; clear hba)
        | (go_at_call 26; refine (unhide qr _ (unhide Ba)).mono ?_; rintro e wb ⟨rfl, hbb⟩; have HHb := hide ((unhide HHa).keep hbb); have HRb := hide ((unhide HRa).keep hbb); have HIb := hide ((unhide HIa).keep hbb); have Yb := hide (And.intro (((unhide HHb)).at (o := 0) (v := .int .i64 h.k) rfl) (And.intro (((unhide HHb)).at (o := 1) (v := .int .i64 h.x) rfl) (And.intro (((unhide HHb)).at (o := 2) (v := .int .i64 h.n) rfl) (And.intro (((unhide HHb)).at (o := 3) (v := .string h.t) rfl) (And.intro (((unhide HHb)).at (o := 4) (v := .string h.y) rfl) (And.intro (((unhide HHb)).at (o := 5) (v := .string h.ty) rfl) (And.intro (((unhide HRb)).at (o := 0) (v := .int .i64 a.x) rfl) (And.intro (((unhide HRb)).at (o := 1) (v := .int .i64 a.n) rfl) (And.intro (((unhide HRb)).at (o := 2) (v := .string a.t) rfl) (And.intro (((unhide HRb)).at (o := 3) (v := .string a.y) rfl) (And.intro (((unhide HIb)).at (o := 0) (v := .map (some b1)) rfl) (((unhide HIb)).at (o := 1) (v := .map (some b2)) rfl)))))))))))); have Bb := hide (bTr (unhide Ba) hbb); clear hbb)
        | (go_at_call 39; refine (unhide qt _).mono ?_; rintro e wc ⟨rfl, rx, rh, hbc⟩; have HHc := hide ((unhide HHb).keep hbc); have HRc := hide ((unhide HRb).keep hbc); have HIc := hide ((unhide HIb).keep hbc); have Yc := hide (And.intro (((unhide HHc)).at (o := 0) (v := .int .i64 h.k) rfl) (And.intro (((unhide HHc)).at (o := 1) (v := .int .i64 h.x) rfl) (And.intro (((unhide HHc)).at (o := 2) (v := .int .i64 h.n) rfl) (And.intro (((unhide HHc)).at (o := 3) (v := .string h.t) rfl) (And.intro (((unhide HHc)).at (o := 4) (v := .string h.y) rfl) (And.intro (((unhide HHc)).at (o := 5) (v := .string h.ty) rfl) (And.intro (((unhide HRc)).at (o := 0) (v := .int .i64 a.x) rfl) (And.intro (((unhide HRc)).at (o := 1) (v := .int .i64 a.n) rfl) (And.intro (((unhide HRc)).at (o := 2) (v := .string a.t) rfl) (And.intro (((unhide HRc)).at (o := 3) (v := .string a.y) rfl) (And.intro (((unhide HIc)).at (o := 0) (v := .map (some b1)) rfl) (((unhide HIc)).at (o := 1) (v := .map (some b2)) rfl)))))))))))); have Bc := hide (bTr (unhide Bb) hbc); have TX := hide rx; have TH := hide rh; clear hbc rx rh)
        | (go_at_call 66; refine (t2_any h _ a _ (unhide TH)).mono ?_; rintro e wd ⟨⟨v, rfl, hv⟩, hbd⟩; have HV := hide hv; have HHd := hide ((unhide HHc).keep hbd); have HRd := hide ((unhide HRc).keep hbd); have HId := hide ((unhide HIc).keep hbd); have Yd := hide (And.intro (((unhide HHd)).at (o := 0) (v := .int .i64 h.k) rfl) (And.intro (((unhide HHd)).at (o := 1) (v := .int .i64 h.x) rfl) (And.intro (((unhide HHd)).at (o := 2) (v := .int .i64 h.n) rfl) (And.intro (((unhide HHd)).at (o := 3) (v := .string h.t) rfl) (And.intro (((unhide HHd)).at (o := 4) (v := .string h.y) rfl) (And.intro (((unhide HHd)).at (o := 5) (v := .string h.ty) rfl) (And.intro (((unhide HRd)).at (o := 0) (v := .int .i64 a.x) rfl) (And.intro (((unhide HRd)).at (o := 1) (v := .int .i64 a.n) rfl) (And.intro (((unhide HRd)).at (o := 2) (v := .string a.t) rfl) (And.intro (((unhide HRd)).at (o := 3) (v := .string a.y) rfl) (And.intro (((unhide HId)).at (o := 0) (v := .map (some b1)) rfl) (((unhide HId)).at (o := 1) (v := .map (some b2)) rfl)))))))))))); have Bd := hide (bTr (unhide Bc) hbd); clear hbd hv))
    go_wp2_with fail
    go_ret
    exact ⟨retB (b := v) ((unhide HV).trans (unhide D1).symm), bTr (unhide BI) (unhide Bd)⟩
  by_cases k3 : h.k = 3
  · have qt : Hid (∀ w', Calls Tryz.prog 39 #[.agg #[.map (some b1), .map (some b2)], hAgg h] w' fun e w'' => e = .returned (.func (.func 67) #[] #[.pointer (some ⟨w'.heap.size, 0, none⟩), .pointer (some ⟨w'.heap.size + 1, 0, none⟩)]) ∧ RowIs w'' w'.heap.size #[.map (some b1), .map (some b2)] 61 ∧ RowIs w'' (w'.heap.size + 1) #[.int .i64 h.k, .int .i64 h.x, .int .i64 h.n, .string h.t, .string h.y, .string h.ty] 43 ∧ Below w'.heap.size w' w'') := hide (fun w' => by
      have e1 : tst h.k w'.heap.size (w'.heap.size + 1) = .func (.func 67) #[] #[.pointer (some ⟨w'.heap.size, 0, none⟩), .pointer (some ⟨w'.heap.size + 1, 0, none⟩)] := by unfold tst; simp [k3]
      rw [← e1]; exact unhide qt0 w')
    have D1 : Hid (HMs (lt.map (·.t)) h a ↔ Up (parC C) a (hAt h)) := hide ((unhide D).trans (by unfold HMat; simp [k3]))
    replace q3 := hide (unhide q3 k3)
    unfold encA at q3
    clear D qt0 k3
    go_wp2_with fail
    rw [unhide HWI, ← unhide HBB]
    go_region_held3 (fun w' => w'.cell? ⟨w.heap.size, 0, none⟩ = some (.int .i64 h.k) ∧ w'.cell? ⟨w.heap.size, 1, none⟩ = some (.int .i64 h.x) ∧ w'.cell? ⟨w.heap.size, 2, none⟩ = some (.int .i64 h.n) ∧ w'.cell? ⟨w.heap.size, 3, none⟩ = some (.string h.t) ∧ w'.cell? ⟨w.heap.size, 4, none⟩ = some (.string h.y) ∧ w'.cell? ⟨w.heap.size, 5, none⟩ = some (.string h.ty) ∧ w'.cell? ⟨w.heap.size + 1, 0, none⟩ = some (.int .i64 a.x) ∧ w'.cell? ⟨w.heap.size + 1, 1, none⟩ = some (.int .i64 a.n) ∧ w'.cell? ⟨w.heap.size + 1, 2, none⟩ = some (.string a.t) ∧ w'.cell? ⟨w.heap.size + 1, 3, none⟩ = some (.string a.y) ∧ w'.cell? ⟨bi, 0, none⟩ = some (.map (some b1)) ∧ w'.cell? ⟨bi, 1, none⟩ = some (.map (some b2)))
      (first | exact unhide Y0 | exact unhide Ya | exact unhide Yb | exact unhide Yc | exact unhide Yd)
      (first
        | (go_at_call 38; refine (unhide qg _ (Below.refl _ _).drew).mono ?_; rintro e wa ⟨rfl, hba⟩; replace hba := undrew hba; have HHa := hide ((unhide HH).keep hba); have HRa := hide ((unhide HR).keep hba); have HIa := hide ((unhide HI).keep hba); have Ya := hide (And.intro (((unhide HHa)).at (o := 0) (v := .int .i64 h.k) rfl) (And.intro (((unhide HHa)).at (o := 1) (v := .int .i64 h.x) rfl) (And.intro (((unhide HHa)).at (o := 2) (v := .int .i64 h.n) rfl) (And.intro (((unhide HHa)).at (o := 3) (v := .string h.t) rfl) (And.intro (((unhide HHa)).at (o := 4) (v := .string h.y) rfl) (And.intro (((unhide HHa)).at (o := 5) (v := .string h.ty) rfl) (And.intro (((unhide HRa)).at (o := 0) (v := .int .i64 a.x) rfl) (And.intro (((unhide HRa)).at (o := 1) (v := .int .i64 a.n) rfl) (And.intro (((unhide HRa)).at (o := 2) (v := .string a.t) rfl) (And.intro (((unhide HRa)).at (o := 3) (v := .string a.y) rfl) (And.intro (((unhide HIa)).at (o := 0) (v := .map (some b1)) rfl) (((unhide HIa)).at (o := 1) (v := .map (some b2)) rfl)))))))))))); have Ba := hide hba; clear hba)
        | (go_at_call 26; refine (unhide qr _ (unhide Ba)).mono ?_; rintro e wb ⟨rfl, hbb⟩; have HHb := hide ((unhide HHa).keep hbb); have HRb := hide ((unhide HRa).keep hbb); have HIb := hide ((unhide HIa).keep hbb); have Yb := hide (And.intro (((unhide HHb)).at (o := 0) (v := .int .i64 h.k) rfl) (And.intro (((unhide HHb)).at (o := 1) (v := .int .i64 h.x) rfl) (And.intro (((unhide HHb)).at (o := 2) (v := .int .i64 h.n) rfl) (And.intro (((unhide HHb)).at (o := 3) (v := .string h.t) rfl) (And.intro (((unhide HHb)).at (o := 4) (v := .string h.y) rfl) (And.intro (((unhide HHb)).at (o := 5) (v := .string h.ty) rfl) (And.intro (((unhide HRb)).at (o := 0) (v := .int .i64 a.x) rfl) (And.intro (((unhide HRb)).at (o := 1) (v := .int .i64 a.n) rfl) (And.intro (((unhide HRb)).at (o := 2) (v := .string a.t) rfl) (And.intro (((unhide HRb)).at (o := 3) (v := .string a.y) rfl) (And.intro (((unhide HIb)).at (o := 0) (v := .map (some b1)) rfl) (((unhide HIb)).at (o := 1) (v := .map (some b2)) rfl)))))))))))); have Bb := hide (bTr (unhide Ba) hbb); clear hbb)
        | (go_at_call 39; refine (unhide qt _).mono ?_; rintro e wc ⟨rfl, rx, rh, hbc⟩; have HHc := hide ((unhide HHb).keep hbc); have HRc := hide ((unhide HRb).keep hbc); have HIc := hide ((unhide HIb).keep hbc); have Yc := hide (And.intro (((unhide HHc)).at (o := 0) (v := .int .i64 h.k) rfl) (And.intro (((unhide HHc)).at (o := 1) (v := .int .i64 h.x) rfl) (And.intro (((unhide HHc)).at (o := 2) (v := .int .i64 h.n) rfl) (And.intro (((unhide HHc)).at (o := 3) (v := .string h.t) rfl) (And.intro (((unhide HHc)).at (o := 4) (v := .string h.y) rfl) (And.intro (((unhide HHc)).at (o := 5) (v := .string h.ty) rfl) (And.intro (((unhide HRc)).at (o := 0) (v := .int .i64 a.x) rfl) (And.intro (((unhide HRc)).at (o := 1) (v := .int .i64 a.n) rfl) (And.intro (((unhide HRc)).at (o := 2) (v := .string a.t) rfl) (And.intro (((unhide HRc)).at (o := 3) (v := .string a.y) rfl) (And.intro (((unhide HIc)).at (o := 0) (v := .map (some b1)) rfl) (((unhide HIc)).at (o := 1) (v := .map (some b2)) rfl)))))))))))); have Bc := hide (bTr (unhide Bb) hbc); have TX := hide rx; have TH := hide rh; clear hbc rx rh)
        | (go_at_call 67; refine (unhide q3 wc (unhide Bc) _ _ (unhide TX) (unhide TH) (by have := unhide ZB; have := (unhide Bb).size; omega) (by have := unhide ZB; have := (unhide Bb).size; omega)).mono ?_; rintro e wd ⟨⟨v, rfl, hv⟩, gd⟩; have HV := hide hv; have HHd := hide (rowGrown (unhide HHc) gd (fun e => by have := Option.some.inj e; have := unhide ZB; omega)); have HRd := hide (rowGrown (unhide HRc) gd (fun e => by have := Option.some.inj e; have := unhide ZB; omega)); have HId := hide (rowGrown (unhide HIc) gd (fun e => by have := Option.some.inj e; have := unhide ZB; omega)); have Yd := hide (And.intro (((unhide HHd)).at (o := 0) (v := .int .i64 h.k) rfl) (And.intro (((unhide HHd)).at (o := 1) (v := .int .i64 h.x) rfl) (And.intro (((unhide HHd)).at (o := 2) (v := .int .i64 h.n) rfl) (And.intro (((unhide HHd)).at (o := 3) (v := .string h.t) rfl) (And.intro (((unhide HHd)).at (o := 4) (v := .string h.y) rfl) (And.intro (((unhide HHd)).at (o := 5) (v := .string h.ty) rfl) (And.intro (((unhide HRd)).at (o := 0) (v := .int .i64 a.x) rfl) (And.intro (((unhide HRd)).at (o := 1) (v := .int .i64 a.n) rfl) (And.intro (((unhide HRd)).at (o := 2) (v := .string a.t) rfl) (And.intro (((unhide HRd)).at (o := 3) (v := .string a.y) rfl) (And.intro (((unhide HId)).at (o := 0) (v := .map (some b1)) rfl) (((unhide HId)).at (o := 1) (v := .map (some b2)) rfl)))))))))))); have Gd := hide gd; clear hv gd))
    go_wp2_with fail
    go_ret
    exact ⟨retB (b := v) ((unhide HV).trans (unhide D1).symm), (bTr (unhide BI) (unhide Bc)).grown (unhide Gd) (bTr (unhide BI) (unhide Bc)).size (fun j h => by cases h; have := (unhide ZB).1; omega)⟩
  by_cases k4 : h.k = 4
  · have qt : Hid (∀ w', Calls Tryz.prog 39 #[.agg #[.map (some b1), .map (some b2)], hAgg h] w' fun e w'' => e = .returned (.func (.func 69) #[] #[.pointer (some ⟨w'.heap.size + 1, 0, none⟩)]) ∧ RowIs w'' w'.heap.size #[.map (some b1), .map (some b2)] 61 ∧ RowIs w'' (w'.heap.size + 1) #[.int .i64 h.k, .int .i64 h.x, .int .i64 h.n, .string h.t, .string h.y, .string h.ty] 43 ∧ Below w'.heap.size w' w'') := hide (fun w' => by
      have e1 : tst h.k w'.heap.size (w'.heap.size + 1) = .func (.func 69) #[] #[.pointer (some ⟨w'.heap.size + 1, 0, none⟩)] := by unfold tst; simp [k4]
      rw [← e1]; exact unhide qt0 w')
    have D1 : Hid (HMs (lt.map (·.t)) h a ↔ a.y = h.ty) := hide ((unhide D).trans (by unfold HMat; simp [k4]))
    clear q3
    clear D qt0 k4
    go_wp2_with fail
    rw [unhide HWI, ← unhide HBB]
    go_region_held3 (fun w' => w'.cell? ⟨w.heap.size, 0, none⟩ = some (.int .i64 h.k) ∧ w'.cell? ⟨w.heap.size, 1, none⟩ = some (.int .i64 h.x) ∧ w'.cell? ⟨w.heap.size, 2, none⟩ = some (.int .i64 h.n) ∧ w'.cell? ⟨w.heap.size, 3, none⟩ = some (.string h.t) ∧ w'.cell? ⟨w.heap.size, 4, none⟩ = some (.string h.y) ∧ w'.cell? ⟨w.heap.size, 5, none⟩ = some (.string h.ty) ∧ w'.cell? ⟨w.heap.size + 1, 0, none⟩ = some (.int .i64 a.x) ∧ w'.cell? ⟨w.heap.size + 1, 1, none⟩ = some (.int .i64 a.n) ∧ w'.cell? ⟨w.heap.size + 1, 2, none⟩ = some (.string a.t) ∧ w'.cell? ⟨w.heap.size + 1, 3, none⟩ = some (.string a.y) ∧ w'.cell? ⟨bi, 0, none⟩ = some (.map (some b1)) ∧ w'.cell? ⟨bi, 1, none⟩ = some (.map (some b2)))
      (first | exact unhide Y0 | exact unhide Ya | exact unhide Yb | exact unhide Yc | exact unhide Yd)
      (first
        | (go_at_call 38; refine (unhide qg _ (Below.refl _ _).drew).mono ?_; rintro e wa ⟨rfl, hba⟩; replace hba := undrew hba; have HHa := hide ((unhide HH).keep hba); have HRa := hide ((unhide HR).keep hba); have HIa := hide ((unhide HI).keep hba); have Ya := hide (And.intro (((unhide HHa)).at (o := 0) (v := .int .i64 h.k) rfl) (And.intro (((unhide HHa)).at (o := 1) (v := .int .i64 h.x) rfl) (And.intro (((unhide HHa)).at (o := 2) (v := .int .i64 h.n) rfl) (And.intro (((unhide HHa)).at (o := 3) (v := .string h.t) rfl) (And.intro (((unhide HHa)).at (o := 4) (v := .string h.y) rfl) (And.intro (((unhide HHa)).at (o := 5) (v := .string h.ty) rfl) (And.intro (((unhide HRa)).at (o := 0) (v := .int .i64 a.x) rfl) (And.intro (((unhide HRa)).at (o := 1) (v := .int .i64 a.n) rfl) (And.intro (((unhide HRa)).at (o := 2) (v := .string a.t) rfl) (And.intro (((unhide HRa)).at (o := 3) (v := .string a.y) rfl) (And.intro (((unhide HIa)).at (o := 0) (v := .map (some b1)) rfl) (((unhide HIa)).at (o := 1) (v := .map (some b2)) rfl)))))))))))); have Ba := hide hba; clear hba)
        | (go_at_call 26; refine (unhide qr _ (unhide Ba)).mono ?_; rintro e wb ⟨rfl, hbb⟩; have HHb := hide ((unhide HHa).keep hbb); have HRb := hide ((unhide HRa).keep hbb); have HIb := hide ((unhide HIa).keep hbb); have Yb := hide (And.intro (((unhide HHb)).at (o := 0) (v := .int .i64 h.k) rfl) (And.intro (((unhide HHb)).at (o := 1) (v := .int .i64 h.x) rfl) (And.intro (((unhide HHb)).at (o := 2) (v := .int .i64 h.n) rfl) (And.intro (((unhide HHb)).at (o := 3) (v := .string h.t) rfl) (And.intro (((unhide HHb)).at (o := 4) (v := .string h.y) rfl) (And.intro (((unhide HHb)).at (o := 5) (v := .string h.ty) rfl) (And.intro (((unhide HRb)).at (o := 0) (v := .int .i64 a.x) rfl) (And.intro (((unhide HRb)).at (o := 1) (v := .int .i64 a.n) rfl) (And.intro (((unhide HRb)).at (o := 2) (v := .string a.t) rfl) (And.intro (((unhide HRb)).at (o := 3) (v := .string a.y) rfl) (And.intro (((unhide HIb)).at (o := 0) (v := .map (some b1)) rfl) (((unhide HIb)).at (o := 1) (v := .map (some b2)) rfl)))))))))))); have Bb := hide (bTr (unhide Ba) hbb); clear hbb)
        | (go_at_call 39; refine (unhide qt _).mono ?_; rintro e wc ⟨rfl, rx, rh, hbc⟩; have HHc := hide ((unhide HHb).keep hbc); have HRc := hide ((unhide HRb).keep hbc); have HIc := hide ((unhide HIb).keep hbc); have Yc := hide (And.intro (((unhide HHc)).at (o := 0) (v := .int .i64 h.k) rfl) (And.intro (((unhide HHc)).at (o := 1) (v := .int .i64 h.x) rfl) (And.intro (((unhide HHc)).at (o := 2) (v := .int .i64 h.n) rfl) (And.intro (((unhide HHc)).at (o := 3) (v := .string h.t) rfl) (And.intro (((unhide HHc)).at (o := 4) (v := .string h.y) rfl) (And.intro (((unhide HHc)).at (o := 5) (v := .string h.ty) rfl) (And.intro (((unhide HRc)).at (o := 0) (v := .int .i64 a.x) rfl) (And.intro (((unhide HRc)).at (o := 1) (v := .int .i64 a.n) rfl) (And.intro (((unhide HRc)).at (o := 2) (v := .string a.t) rfl) (And.intro (((unhide HRc)).at (o := 3) (v := .string a.y) rfl) (And.intro (((unhide HIc)).at (o := 0) (v := .map (some b1)) rfl) (((unhide HIc)).at (o := 1) (v := .map (some b2)) rfl)))))))))))); have Bc := hide (bTr (unhide Bb) hbc); have TX := hide rx; have TH := hide rh; clear hbc rx rh)
        | (go_at_call 69; refine (t4_any h _ a _ (unhide TH)).mono ?_; rintro e wd ⟨⟨v, rfl, hv⟩, hbd⟩; have HV := hide hv; have HHd := hide ((unhide HHc).keep hbd); have HRd := hide ((unhide HRc).keep hbd); have HId := hide ((unhide HIc).keep hbd); have Yd := hide (And.intro (((unhide HHd)).at (o := 0) (v := .int .i64 h.k) rfl) (And.intro (((unhide HHd)).at (o := 1) (v := .int .i64 h.x) rfl) (And.intro (((unhide HHd)).at (o := 2) (v := .int .i64 h.n) rfl) (And.intro (((unhide HHd)).at (o := 3) (v := .string h.t) rfl) (And.intro (((unhide HHd)).at (o := 4) (v := .string h.y) rfl) (And.intro (((unhide HHd)).at (o := 5) (v := .string h.ty) rfl) (And.intro (((unhide HRd)).at (o := 0) (v := .int .i64 a.x) rfl) (And.intro (((unhide HRd)).at (o := 1) (v := .int .i64 a.n) rfl) (And.intro (((unhide HRd)).at (o := 2) (v := .string a.t) rfl) (And.intro (((unhide HRd)).at (o := 3) (v := .string a.y) rfl) (And.intro (((unhide HId)).at (o := 0) (v := .map (some b1)) rfl) (((unhide HId)).at (o := 1) (v := .map (some b2)) rfl)))))))))))); have Bd := hide (bTr (unhide Bc) hbd); clear hbd hv))
    go_wp2_with fail
    go_ret
    exact ⟨retB (b := v) ((unhide HV).trans (unhide D1).symm), bTr (unhide BI) (unhide Bd)⟩
  have qt : Hid (∀ w', Calls Tryz.prog 39 #[.agg #[.map (some b1), .map (some b2)], hAgg h] w' fun e w'' => e = .returned (.func (.func 70) #[] #[]) ∧ RowIs w'' w'.heap.size #[.map (some b1), .map (some b2)] 61 ∧ RowIs w'' (w'.heap.size + 1) #[.int .i64 h.k, .int .i64 h.x, .int .i64 h.n, .string h.t, .string h.y, .string h.ty] 43 ∧ Below w'.heap.size w' w'') := hide (fun w' => by
    have e1 : tst h.k w'.heap.size (w'.heap.size + 1) = .func (.func 70) #[] #[] := by unfold tst; simp [k1, k2, k3, k4]
    rw [← e1]; exact unhide qt0 w')
  have D1 : Hid (HMs (lt.map (·.t)) h a ↔ False) := hide ((unhide D).trans (by unfold HMat; simp [k1, k2, k3, k4]))
  clear q3
  clear D qt0 k1 k2 k3 k4
  go_wp2_with fail
  rw [unhide HWI, ← unhide HBB]
  go_region_held3 (fun w' => w'.cell? ⟨w.heap.size, 0, none⟩ = some (.int .i64 h.k) ∧ w'.cell? ⟨w.heap.size, 1, none⟩ = some (.int .i64 h.x) ∧ w'.cell? ⟨w.heap.size, 2, none⟩ = some (.int .i64 h.n) ∧ w'.cell? ⟨w.heap.size, 3, none⟩ = some (.string h.t) ∧ w'.cell? ⟨w.heap.size, 4, none⟩ = some (.string h.y) ∧ w'.cell? ⟨w.heap.size, 5, none⟩ = some (.string h.ty) ∧ w'.cell? ⟨w.heap.size + 1, 0, none⟩ = some (.int .i64 a.x) ∧ w'.cell? ⟨w.heap.size + 1, 1, none⟩ = some (.int .i64 a.n) ∧ w'.cell? ⟨w.heap.size + 1, 2, none⟩ = some (.string a.t) ∧ w'.cell? ⟨w.heap.size + 1, 3, none⟩ = some (.string a.y) ∧ w'.cell? ⟨bi, 0, none⟩ = some (.map (some b1)) ∧ w'.cell? ⟨bi, 1, none⟩ = some (.map (some b2)))
    (first | exact unhide Y0 | exact unhide Ya | exact unhide Yb | exact unhide Yc | exact unhide Yd)
    (first
      | (go_at_call 38; refine (unhide qg _ (Below.refl _ _).drew).mono ?_; rintro e wa ⟨rfl, hba⟩; replace hba := undrew hba; have HHa := hide ((unhide HH).keep hba); have HRa := hide ((unhide HR).keep hba); have HIa := hide ((unhide HI).keep hba); have Ya := hide (And.intro (((unhide HHa)).at (o := 0) (v := .int .i64 h.k) rfl) (And.intro (((unhide HHa)).at (o := 1) (v := .int .i64 h.x) rfl) (And.intro (((unhide HHa)).at (o := 2) (v := .int .i64 h.n) rfl) (And.intro (((unhide HHa)).at (o := 3) (v := .string h.t) rfl) (And.intro (((unhide HHa)).at (o := 4) (v := .string h.y) rfl) (And.intro (((unhide HHa)).at (o := 5) (v := .string h.ty) rfl) (And.intro (((unhide HRa)).at (o := 0) (v := .int .i64 a.x) rfl) (And.intro (((unhide HRa)).at (o := 1) (v := .int .i64 a.n) rfl) (And.intro (((unhide HRa)).at (o := 2) (v := .string a.t) rfl) (And.intro (((unhide HRa)).at (o := 3) (v := .string a.y) rfl) (And.intro (((unhide HIa)).at (o := 0) (v := .map (some b1)) rfl) (((unhide HIa)).at (o := 1) (v := .map (some b2)) rfl)))))))))))); have Ba := hide hba; clear hba)
      | (go_at_call 26; refine (unhide qr _ (unhide Ba)).mono ?_; rintro e wb ⟨rfl, hbb⟩; have HHb := hide ((unhide HHa).keep hbb); have HRb := hide ((unhide HRa).keep hbb); have HIb := hide ((unhide HIa).keep hbb); have Yb := hide (And.intro (((unhide HHb)).at (o := 0) (v := .int .i64 h.k) rfl) (And.intro (((unhide HHb)).at (o := 1) (v := .int .i64 h.x) rfl) (And.intro (((unhide HHb)).at (o := 2) (v := .int .i64 h.n) rfl) (And.intro (((unhide HHb)).at (o := 3) (v := .string h.t) rfl) (And.intro (((unhide HHb)).at (o := 4) (v := .string h.y) rfl) (And.intro (((unhide HHb)).at (o := 5) (v := .string h.ty) rfl) (And.intro (((unhide HRb)).at (o := 0) (v := .int .i64 a.x) rfl) (And.intro (((unhide HRb)).at (o := 1) (v := .int .i64 a.n) rfl) (And.intro (((unhide HRb)).at (o := 2) (v := .string a.t) rfl) (And.intro (((unhide HRb)).at (o := 3) (v := .string a.y) rfl) (And.intro (((unhide HIb)).at (o := 0) (v := .map (some b1)) rfl) (((unhide HIb)).at (o := 1) (v := .map (some b2)) rfl)))))))))))); have Bb := hide (bTr (unhide Ba) hbb); clear hbb)
      | (go_at_call 39; refine (unhide qt _).mono ?_; rintro e wc ⟨rfl, rx, rh, hbc⟩; have HHc := hide ((unhide HHb).keep hbc); have HRc := hide ((unhide HRb).keep hbc); have HIc := hide ((unhide HIb).keep hbc); have Yc := hide (And.intro (((unhide HHc)).at (o := 0) (v := .int .i64 h.k) rfl) (And.intro (((unhide HHc)).at (o := 1) (v := .int .i64 h.x) rfl) (And.intro (((unhide HHc)).at (o := 2) (v := .int .i64 h.n) rfl) (And.intro (((unhide HHc)).at (o := 3) (v := .string h.t) rfl) (And.intro (((unhide HHc)).at (o := 4) (v := .string h.y) rfl) (And.intro (((unhide HHc)).at (o := 5) (v := .string h.ty) rfl) (And.intro (((unhide HRc)).at (o := 0) (v := .int .i64 a.x) rfl) (And.intro (((unhide HRc)).at (o := 1) (v := .int .i64 a.n) rfl) (And.intro (((unhide HRc)).at (o := 2) (v := .string a.t) rfl) (And.intro (((unhide HRc)).at (o := 3) (v := .string a.y) rfl) (And.intro (((unhide HIc)).at (o := 0) (v := .map (some b1)) rfl) (((unhide HIc)).at (o := 1) (v := .map (some b2)) rfl)))))))))))); have Bc := hide (bTr (unhide Bb) hbc); have TX := hide rx; have TH := hide rh; clear hbc rx rh)
      | (go_at_call 70; refine (t5_any a _).mono ?_; rintro e wd ⟨rfl, hbd⟩; have HHd := hide ((unhide HHc).keep hbd); have HRd := hide ((unhide HRc).keep hbd); have HId := hide ((unhide HIc).keep hbd); have Yd := hide (And.intro (((unhide HHd)).at (o := 0) (v := .int .i64 h.k) rfl) (And.intro (((unhide HHd)).at (o := 1) (v := .int .i64 h.x) rfl) (And.intro (((unhide HHd)).at (o := 2) (v := .int .i64 h.n) rfl) (And.intro (((unhide HHd)).at (o := 3) (v := .string h.t) rfl) (And.intro (((unhide HHd)).at (o := 4) (v := .string h.y) rfl) (And.intro (((unhide HHd)).at (o := 5) (v := .string h.ty) rfl) (And.intro (((unhide HRd)).at (o := 0) (v := .int .i64 a.x) rfl) (And.intro (((unhide HRd)).at (o := 1) (v := .int .i64 a.n) rfl) (And.intro (((unhide HRd)).at (o := 2) (v := .string a.t) rfl) (And.intro (((unhide HRd)).at (o := 3) (v := .string a.y) rfl) (And.intro (((unhide HId)).at (o := 0) (v := .map (some b1)) rfl) (((unhide HId)).at (o := 1) (v := .map (some b2)) rfl)))))))))))); have Bd := hide (bTr (unhide Bc) hbd); clear hbd))
  go_wp2_with fail
  go_ret
  exact ⟨retB (b := false) ⟨fun h => (by cases h), fun h => ((unhide D1).1 h).elim⟩, bTr (unhide BI) (unhide Bd)⟩
end Go.Proofs.YtpfekkhnjaopdaaGreat.V
/- spec.l12Has, l11Thing. -/
namespace Go.Proofs.YtpfekkhnjaopdaaGreat.V
set_option linter.unusedSimpArgs false
set_option linter.unusedVariables false
open Go.RowKit Go.Maps

set_option maxRecDepth 20000 in
set_option maxHeartbeats 4000000 in
theorem l12Has_n (hd : Hd) (l : List AtomT) (a : AtomT) (w : World) (hl : l.length ≤ maxLen) (hs : SqA w 0 hd l) :
    Calls Tryz.prog 47 #[.slice hd.a hd.len hd.cap, encA a] w fun e w' => RetB e (a ∈ l) ∧ Below w.heap.size w w' := by
  have HS := hide hs
  have HL := hide hs.1
  have LM : hd.len ≤ maxLen := by rw [hs.1]; exact hl
  unfold maxLen at LM
  obtain ⟨ha, len, cap⟩ := hd
  simp only at HL LM
  obtain ⟨ax, an, at', ay⟩ := a
  unfold encA
  generalize hG : ((⟨ax, an, at', ay⟩ : AtomT) ∈ l) = G
  have D : Hid (G ↔ (⟨ax, an, at', ay⟩ : AtomT) ∈ l) := hide (by rw [hG])
  have R := hide (RowIs.new w #[.int .i64 ax, .int .i64 an, .string at', .string ay] 31)
  have B := hide (bAl (Below.refl w.heap.size w) (.cells #[.int .i64 ax, .int .i64 an, .string at', .string ay] 31))
  clear hs hl hG
  go_enter Tryz.func47, Tryz.ntmps47
  go_wp2_with fail
  go_loopw [9] (fun i w' => ∃ k : Nat, k ≤ len ∧ i = .int .i64 k ∧ Hid (Below w.heap.size w w') ∧ Hid (RowIs w' w.heap.size #[.int .i64 ax, .int .i64 an, .string at', .string ay] 31) ∧ Hid (∀ i (h : i < l.length), i < k → ¬ l[i] = ⟨ax, an, at', ay⟩)) (fun i _ => len - (Go.RowKit.intOf i).toNat)
  case atStart => exact ⟨0, Nat.zero_le _, rfl, B, R, hide (fun i _ h => absurd h (Nat.not_lt_zero _))⟩
  case round =>
    clear B R
    obtain ⟨k, hk, rfl, B, R, hA⟩ := hrel
    by_cases hlt : k < len
    case neg =>
      have no : Hid (¬ G) := hide (fun g => by
        obtain ⟨i, hi, h⟩ := List.getElem_of_mem ((unhide D).1 g)
        exact unhide hA i hi (by have := unhide HL; omega) h)
      clear hA D
      go_wp2_with fail
      go_ret
      exact ⟨retB (b := false) ⟨fun h => (by cases h), fun h => absurd h (unhide no)⟩, unhide B⟩
    have hk' : k < l.length := by have := unhide HL; omega
    obtain ⟨b1, off1, e1, row1⟩ := ((unhide HS).keep (unhide B)).sl.at hlt
    simp only at e1
    subst e1
    have c0 := (row1.c k hk').c0
    have c1 := (row1.c k hk').c1
    have c2 := (row1.c k hk').c2
    have c3 := (row1.c k hk').c3
    have YES : Hid (l[k] = ⟨ax, an, at', ay⟩ → G) := hide (fun h => (unhide D).2 (by rw [← h]; exact List.getElem_mem hk'))
    have STP : Hid (¬ l[k] = ⟨ax, an, at', ay⟩ → ∀ i (h : i < l.length), i < k + 1 → ¬ l[i] = ⟨ax, an, at', ay⟩) := hide (fun g i hi h1 => by
      rcases Nat.lt_or_ge i k with h2 | h2
      · exact unhide hA i hi h2
      · obtain rfl : i = k := by omega
        exact g)
    have zl := (unhide R).lt
    have r0 := (unhide R).at (o := 0) (v := .int .i64 ax) rfl
    have r1 := (unhide R).at (o := 1) (v := .int .i64 an) rfl
    have r2 := (unhide R).at (o := 2) (v := .string at') rfl
    have r3 := (unhide R).at (o := 3) (v := .string ay) rfl
    clear row1 hA D
    generalize l[k] = A at *
    obtain ⟨x, n, t, y⟩ := A
    simp only at c0 c1 c2 c3
    have BN := hide (bAl (unhide B) (.cells #[.int .i64 x, .int .i64 n, .string t, .string y] 31))
    have RN := hide ((unhide R).keep (bAl (Below.refl _ _) (.cells #[.int .i64 x, .int .i64 n, .string t, .string y] 31)))
    by_cases e0 : x = ax
    case neg =>
      have d : (x == ax) = false := by simpa using e0
      have S := hide (unhide STP (fun h => e0 (by injection h)))
      clear e0 YES STP
      go_wp2_with fail
      exact ⟨⟨k + 1, by omega, by go_num, BN, RN, S⟩, by simp [Go.RowKit.intOf]; omega⟩
    subst e0
    by_cases e1 : n = an
    case neg =>
      have d : (n == an) = false := by simpa using e1
      have S := hide (unhide STP (fun h => e1 (by injection h)))
      clear e1 YES STP
      go_wp2_with fail
      exact ⟨⟨k + 1, by omega, by go_num, BN, RN, S⟩, by simp [Go.RowKit.intOf]; omega⟩
    subst e1
    by_cases e2 : t = at'
    case neg =>
      have d : (ByteArray.toList t == ByteArray.toList at') = false := str_neN e2
      have S := hide (unhide STP (fun h => e2 (by injection h)))
      clear e2 YES STP
      go_wp2_with fail
      exact ⟨⟨k + 1, by omega, by go_num, BN, RN, S⟩, by simp [Go.RowKit.intOf]; omega⟩
    subst e2
    by_cases e3 : y = ay
    case neg =>
      have d : (ByteArray.toList y == ByteArray.toList ay) = false := str_neN e3
      have S := hide (unhide STP (fun h => e3 (by injection h)))
      clear e3 YES STP
      go_wp2_with fail
      exact ⟨⟨k + 1, by omega, by go_num, BN, RN, S⟩, by simp [Go.RowKit.intOf]; omega⟩
    subst e3
    have yes := hide (unhide YES rfl)
    clear YES STP
    go_wp2_with fail
    go_ret
    exact ⟨retB (b := true) ⟨fun _ => unhide yes, fun _ => rfl⟩, unhide BN⟩
theorem find_atN {E : Type} {p : E → Bool} {l : List E} {k : Nat} (hk : k < l.length) (h1 : ∀ i (h : i < l.length), i < k → p l[i] = false) (h2 : p l[k] = true) : l.find? p = some l[k] := by
  induction l generalizing k with
  | nil => cases hk
  | cons x l ih =>
    rw [List.find?_cons]
    cases k with
    | zero => simp at h2; simp [h2]
    | succ k =>
      have h0 := h1 0 (by simp) (by omega)
      simp at h0
      simp [h0]
      exact ih (by simpa using hk) (fun i hi hik => by have := h1 (i + 1) (by simpa using hi) (by omega); simpa using this) (by simpa using h2)
set_option maxRecDepth 20000 in
set_option maxHeartbeats 4000000 in
theorem l11Thing_n (hd : Hd) (l : List ThingE) (a : AtomT) (w : World) (hl : l.length ≤ maxLen) (hs : SqThingE w 0 hd l) :
    Calls Tryz.prog 46 #[.slice hd.a hd.len hd.cap, encA a] w fun r w' => (∃ (x : ThingE) (b : Bool), r = .returned (.tuple #[thV x, .bool b]) ∧ l.find? (fun c => decide (c.t.f0 = a)) = (if b = true then some x else none) ∧ (b = false → x.h1 = ⟨none, 0, 0⟩)) ∧ Below w.heap.size w w' := by
  have HL := hide hs.1
  have LM : hd.len ≤ maxLen := by rw [hs.1]; exact hl
  unfold maxLen at LM
  have HS := hide hs
  obtain ⟨ax, an, at', ay⟩ := a
  unfold encA thV
  obtain ⟨FD, hFD⟩ : ∃ FD, FD = l.find? (fun c => decide (c.t.f0 = ⟨ax, an, at', ay⟩)) := ⟨_, rfl⟩
  have HFD := hide hFD
  rw [← hFD]
  have R := hide ((RowIs.new w #[.int .i64 ax, .int .i64 an, .string at', .string ay] 31).keep (bAl (Below.refl _ _) (.cells #[.int .i64 0, .int .i64 0, .string ⟨#[]⟩, .string ⟨#[]⟩, .slice none 0 0, .slice none 0 0, .slice none 0 0] 56)))
  have Z : Hid (RowIs ((w.alloc (.cells #[.int .i64 ax, .int .i64 an, .string at', .string ay] 31)).alloc (.cells #[.int .i64 0, .int .i64 0, .string ⟨#[]⟩, .string ⟨#[]⟩, .slice none 0 0, .slice none 0 0, .slice none 0 0] 56)) (w.heap.size + 1) #[.int .i64 0, .int .i64 0, .string ⟨#[]⟩, .string ⟨#[]⟩, .slice none 0 0, .slice none 0 0, .slice none 0 0] 56) := hide (by have := RowIs.new (w.alloc (.cells #[.int .i64 ax, .int .i64 an, .string at', .string ay] 31)) #[.int .i64 0, .int .i64 0, .string ⟨#[]⟩, .string ⟨#[]⟩, .slice none 0 0, .slice none 0 0, .slice none 0 0] 56; simpa using this)
  have B := hide (bAl (bAl (Below.refl w.heap.size w) (.cells #[.int .i64 ax, .int .i64 an, .string at', .string ay] 31)) (.cells #[.int .i64 0, .int .i64 0, .string ⟨#[]⟩, .string ⟨#[]⟩, .slice none 0 0, .slice none 0 0, .slice none 0 0] 56))
  obtain ⟨W0, hW0⟩ : ∃ W, W = (w.alloc (.cells #[.int .i64 ax, .int .i64 an, .string at', .string ay] 31)).alloc (.cells #[.int .i64 0, .int .i64 0, .string ⟨#[]⟩, .string ⟨#[]⟩, .slice none 0 0, .slice none 0 0, .slice none 0 0] 56) := ⟨_, rfl⟩
  have HW := hide hW0
  rw [← hW0] at R Z B
  clear hs hl hW0 hFD
  go_enter Tryz.func46, Tryz.ntmps46
  go_wp2_with fail
  rw [← unhide HW]
  clear HW
  go_loopw [10] (fun i w' => ∃ k : Nat, k ≤ hd.len ∧ i = .int .i64 k ∧ Hid (Below w.heap.size w w') ∧ Hid (RowIs w' w.heap.size #[.int .i64 ax, .int .i64 an, .string at', .string ay] 31) ∧ Hid (RowIs w' (w.heap.size + 1) #[.int .i64 0, .int .i64 0, .string ⟨#[]⟩, .string ⟨#[]⟩, .slice none 0 0, .slice none 0 0, .slice none 0 0] 56) ∧ Hid (∀ i (h : i < l.length), i < k → ¬ l[i].t.f0 = ⟨ax, an, at', ay⟩)) (fun i _ => hd.len - (Go.RowKit.intOf i).toNat)
  case atStart => exact ⟨0, Nat.zero_le _, rfl, B, R, Z, hide (fun i _ h => absurd h (Nat.not_lt_zero _))⟩
  case round =>
    clear B Z R
    obtain ⟨k, hk, rfl, B, R, Z, hA⟩ := hrel
    by_cases hlt : k < hd.len
    case neg =>
      have no : Hid (FD = none) := hide (by
        rw [unhide HFD]
        refine List.find?_eq_none.2 fun e he hd => ?_
        obtain ⟨i, hi, rfl⟩ := List.getElem_of_mem he
        exact unhide hA i hi (by have := unhide HL; omega) (by simpa using hd))
      have k0 := (unhide Z).at (o := 0) (v := .int .i64 0) rfl
      have q0 := (unhide Z).froz 0
      have k1 := (unhide Z).at (o := 1) (v := .int .i64 0) rfl
      have q1 := (unhide Z).froz 1
      have k2 := (unhide Z).at (o := 2) (v := .string ⟨#[]⟩) rfl
      have q2 := (unhide Z).froz 2
      have k3 := (unhide Z).at (o := 3) (v := .string ⟨#[]⟩) rfl
      have q3 := (unhide Z).froz 3
      have k4 := (unhide Z).at (o := 4) (v := .slice none 0 0) rfl
      have q4 := (unhide Z).froz 4
      have k5 := (unhide Z).at (o := 5) (v := .slice none 0 0) rfl
      have q5 := (unhide Z).froz 5
      have k6 := (unhide Z).at (o := 6) (v := .slice none 0 0) rfl
      have q6 := (unhide Z).froz 6
      clear hA HFD
      go_wp2_with fail
      refine bodyPost_ret (v := .tuple #[.agg #[.int .i64 0, .int .i64 0, .string ⟨#[]⟩, .string ⟨#[]⟩, .slice none 0 0, .slice none 0 0, .slice none 0 0], .bool false]) (by simp [results, Tryz.results46, go_sem, k0, k1, k2, k3, k4, k5, k6]) rfl ⟨⟨⟨⟨⟨0, 0, ⟨#[]⟩, ⟨#[]⟩⟩, [], [], []⟩, ⟨none, 0, 0⟩, ⟨none, 0, 0⟩, ⟨none, 0, 0⟩⟩, false, rfl, by rw [unhide no]; rfl, fun _ => rfl⟩, ?_⟩
      repeat refine bSt ?_ (by omega) _ _
      exact unhide B
    have hk' : k < l.length := by have := unhide HL; omega
    obtain ⟨b1, off1, e1, row1⟩ := ((unhide HS).keep (unhide B)).at hlt
    have c0 := row1.c0 k hk'
    have c1 := row1.c1 k hk'
    have c2 := row1.c2 k hk'
    have c3 := row1.c3 k hk'
    have c4 := row1.c4 k hk'
    have c5 := row1.c5 k hk'
    have c6 := row1.c6 k hk'
    have YES : Hid (l[k].t.f0 = ⟨ax, an, at', ay⟩ → FD = some l[k]) := hide (fun h => by
      rw [unhide HFD]
      exact find_atN hk' (fun i hi hik => by simpa using unhide hA i hi hik) (by simpa using h))
    have STP : Hid (¬ l[k].t.f0 = ⟨ax, an, at', ay⟩ → ∀ i (h : i < l.length), i < k + 1 → ¬ l[i].t.f0 = ⟨ax, an, at', ay⟩) := hide (fun g i hi h1 => by
      rcases Nat.lt_or_ge i k with h2 | h2
      · exact unhide hA i hi h2
      · obtain rfl : i = k := by omega
        exact g)
    have zl := (unhide R).lt
    have r0 := (unhide R).at (o := 0) (v := .int .i64 ax) rfl
    have r1 := (unhide R).at (o := 1) (v := .int .i64 an) rfl
    have r2 := (unhide R).at (o := 2) (v := .string at') rfl
    have r3 := (unhide R).at (o := 3) (v := .string ay) rfl
    clear row1 hA HFD
    generalize l[k] = A at *
    generalize hd.a = aa at e1 ⊢
    subst e1
    obtain ⟨⟨⟨x, n, t, y⟩, u1, u2, u3⟩, g1, g2, g3⟩ := A
    simp only at c0 c1 c2 c3 c4 c5 c6 YES STP
    have BN := hide (bAl (unhide B) (.cells #[.int .i64 x, .int .i64 n, .string t, .string y, .slice g1.a g1.len g1.cap, .slice g2.a g2.len g2.cap, .slice g3.a g3.len g3.cap] 56))
    have ZN := hide ((unhide Z).keep (bAl (Below.refl _ _) (.cells #[.int .i64 x, .int .i64 n, .string t, .string y, .slice g1.a g1.len g1.cap, .slice g2.a g2.len g2.cap, .slice g3.a g3.len g3.cap] 56)))
    have RN := hide ((unhide R).keep (bAl (Below.refl _ _) (.cells #[.int .i64 x, .int .i64 n, .string t, .string y, .slice g1.a g1.len g1.cap, .slice g2.a g2.len g2.cap, .slice g3.a g3.len g3.cap] 56)))
    by_cases e0 : x = ax
    case neg =>
      have d : (x == ax) = false := by simpa using e0
      have S := hide (unhide STP (fun h => e0 (by injection h)))
      clear e0 YES STP
      go_wp2_with fail
      exact ⟨⟨k + 1, by omega, by go_num, BN, RN, ZN, S⟩, by simp [Go.RowKit.intOf]; omega⟩
    subst e0
    by_cases e1 : n = an
    case neg =>
      have d : (n == an) = false := by simpa using e1
      have S := hide (unhide STP (fun h => e1 (by injection h)))
      clear e1 YES STP
      go_wp2_with fail
      exact ⟨⟨k + 1, by omega, by go_num, BN, RN, ZN, S⟩, by simp [Go.RowKit.intOf]; omega⟩
    subst e1
    by_cases e2 : t = at'
    case neg =>
      have d : (ByteArray.toList t == ByteArray.toList at') = false := str_neN e2
      have S := hide (unhide STP (fun h => e2 (by injection h)))
      clear e2 YES STP
      go_wp2_with fail
      exact ⟨⟨k + 1, by omega, by go_num, BN, RN, ZN, S⟩, by simp [Go.RowKit.intOf]; omega⟩
    subst e2
    by_cases e3 : y = ay
    case neg =>
      have d : (ByteArray.toList y == ByteArray.toList ay) = false := str_neN e3
      have S := hide (unhide STP (fun h => e3 (by injection h)))
      clear e3 YES STP
      go_wp2_with fail
      exact ⟨⟨k + 1, by omega, by go_num, BN, RN, ZN, S⟩, by simp [Go.RowKit.intOf]; omega⟩
    subst e3
    have yes := hide (unhide YES rfl)
    clear YES STP
    have k0 := (unhide Z).at (o := 0) (v := .int .i64 0) rfl
    have q0 := (unhide Z).froz 0
    have k1 := (unhide Z).at (o := 1) (v := .int .i64 0) rfl
    have q1 := (unhide Z).froz 1
    have k2 := (unhide Z).at (o := 2) (v := .string ⟨#[]⟩) rfl
    have q2 := (unhide Z).froz 2
    have k3 := (unhide Z).at (o := 3) (v := .string ⟨#[]⟩) rfl
    have q3 := (unhide Z).froz 3
    have k4 := (unhide Z).at (o := 4) (v := .slice none 0 0) rfl
    have q4 := (unhide Z).froz 4
    have k5 := (unhide Z).at (o := 5) (v := .slice none 0 0) rfl
    have q5 := (unhide Z).froz 5
    have k6 := (unhide Z).at (o := 6) (v := .slice none 0 0) rfl
    have q6 := (unhide Z).froz 6
    have zz : w.heap.size + 1 < wr.heap.size := (unhide Z).lt
    have ZF := ((((((((unhide Z).set 0 (.int .i64 x)).set 1 (.int .i64 n)).set 2 (.string t)).set 3 (.string y)).set 4 (.slice g1.a g1.len g1.cap)).set 5 (.slice g2.a g2.len g2.cap)).set 6 (.slice g3.a g3.len g3.cap))
    simp only [List.setIfInBounds_toArray, List.set_cons_zero, List.set_cons_succ] at ZF
    have ZG := ZF.keep (bAl (Below.refl _ _) (.cells #[.int .i64 x, .int .i64 n, .string t, .string y, .slice g1.a g1.len g1.cap, .slice g2.a g2.len g2.cap, .slice g3.a g3.len g3.cap] 56))
    have f0 := ZG.at (o := 0) (v := .int .i64 x) rfl
    have f1 := ZG.at (o := 1) (v := .int .i64 n) rfl
    have f2 := ZG.at (o := 2) (v := .string t) rfl
    have f3 := ZG.at (o := 3) (v := .string y) rfl
    have f4 := ZG.at (o := 4) (v := .slice g1.a g1.len g1.cap) rfl
    have f5 := ZG.at (o := 5) (v := .slice g2.a g2.len g2.cap) rfl
    have f6 := ZG.at (o := 6) (v := .slice g3.a g3.len g3.cap) rfl
    have F := hide (And.intro f0 (And.intro f1 (And.intro f2 (And.intro f3 (And.intro f4 (And.intro f5 f6))))))
    clear ZF ZG f0 f1 f2 f3 f4 f5 f6
    go_wp2_with fail
    obtain ⟨f0, f1, f2, f3, f4, f5, f6⟩ := unhide F
    refine bodyPost_ret (v := .tuple #[.agg #[.int .i64 x, .int .i64 n, .string t, .string y, .slice g1.a g1.len g1.cap, .slice g2.a g2.len g2.cap, .slice g3.a g3.len g3.cap], .bool true]) (by simp [results, Tryz.results46, go_sem, f0, f1, f2, f3, f4, f5, f6]) rfl ⟨⟨⟨⟨⟨x, n, t, y⟩, u1, u2, u3⟩, g1, g2, g3⟩, true, rfl, by rw [unhide yes]; rfl, fun h => by cases h⟩, ?_⟩
    refine bAl ?_ _
    repeat refine bSt ?_ (by omega) _ _
    exact unhide B
end Go.Proofs.YtpfekkhnjaopdaaGreat.V
