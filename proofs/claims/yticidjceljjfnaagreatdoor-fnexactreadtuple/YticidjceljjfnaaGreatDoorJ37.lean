/- BSp, TRdP, one behind the other. -/
import Derived.Test.YticidjceljjfnaaGreatDoorJ36
import Derived.Test.YticidjceljjfnaaGreatDoorJ25
import Derived.Test.YticidjceljjfnaaGreatDoorJ11
/- spec.ReadValue: what it leans on, pure. -/
namespace Go.Proofs.YticidjceljjfnaaGreatDoor.V
open Go.RowKit
set_option maxRecDepth 20000

theorem join_le (m : Nat) : ∀ L : List (List UInt8), (∀ p ∈ L, p.length ≤ m) → (Lib.join L [44]).length ≤ L.length * (m + 1)
  | [], _ => by simp [Lib.join, List.intercalate]
  | [p], h => by rw [join_one]; have := h p (by simp); simp; omega
  | p :: q :: L, h => by
    have ih := join_le m (q :: L) (fun x hx => h x (List.mem_cons_of_mem _ hx))
    have hp := h p (by simp)
    rw [join_two, List.length_append, List.length_append]
    simp only [List.length_cons, List.length_nil] at ih ⊢
    rw [Nat.succ_mul (L.length + 1) (m + 1)]
    omega
theorem name_30 {y : ByteArray} (h : goodName y = true) : y.data.toList.length ≤ 30 := by
  have hn : nameL y.data.toList = true := h
  unfold nameL at hn
  simp only [Bool.and_eq_true, decide_eq_true_eq] at hn
  omega
/-- A good value's text has at most 60000 bytes. -/
theorem val_60000 {v : ValT} (hv : v.Ok) (hg : GoodVal v) : (valL v).length ≤ 60000 := by
  rcases hg with ⟨h1, h2, _, _⟩ | ⟨h1, h2, h3, h4, _, h6⟩ | ⟨h1, h2, h3, h4, h5, h6, _⟩
  · rw [valL_1 h1]
    have := atom_500 (k := v.a.x) (n := v.a.n) (t := v.a.t) (y := v.a.y) h2 hv.a.n8 hv.a.n9
    have e : v.a.l.length ≤ 500 := this
    omega
  · rw [valL_2 h1]
    have := join_le 500 (v.items.map AtomT.l) (fun p hp => by
      obtain ⟨a, ha, rfl⟩ := List.mem_map.1 hp
      obtain ⟨j, hj, rfl⟩ := List.getElem_of_mem ha
      have o := hv.items _ (List.getElem_mem hj)
      exact atom_500 (h4 j hj hj) o.n8 o.n9)
    rw [List.length_map] at this
    simp only [List.length_cons, List.length_append, List.length_nil]
    have : v.items.length * (500 + 1) ≤ 50 * 501 := Nat.mul_le_mul_right _ h3
    omega
  · rw [valL_3 h1]
    have := join_le 531 (List.zipWith (fun n a => n.data.toList ++ 58 :: AtomT.l a) v.names v.items) (fun p hp => by
      obtain ⟨j, hj, rfl⟩ := List.getElem_of_mem hp
      rw [List.length_zipWith] at hj
      rw [List.getElem_zipWith, List.length_append, List.length_cons]
      have o := hv.items _ (List.getElem_mem (show j < v.items.length by omega))
      have x := atom_500 (h4 j (by omega) (by omega)) o.n8 o.n9
      have x' : (v.items[j]'(by omega)).l.length ≤ 500 := x
      have y := name_30 (h6 j (by omega) (by omega))
      omega)
    rw [List.length_zipWith] at this
    simp only [List.length_cons, List.length_append, List.length_nil]
    have : min v.names.length v.items.length * (531 + 1) ≤ 50 * 532 := Nat.mul_le_mul_right _ (by omega)
    omega
theorem val_two {v : ValT} (hv : v.Ok) (hg : GoodVal v) : (v.k = 1 ∧ ∃ c r, valL v = c :: r ∧ ¬ c = 91 ∧ ¬ c = 123) ∨ (v.k = 2 ∧ ∃ r, valL v = 91 :: r ∧ 1 ≤ r.length) ∨ (v.k = 3 ∧ ∃ r, valL v = 123 :: r ∧ 1 ≤ r.length) := by
  rcases hg with ⟨h1, h2, _⟩ | ⟨h1, _⟩ | ⟨h1, _⟩
  · exact .inl ⟨h1, good_first hv h1 h2⟩
  · exact .inr (.inl ⟨h1, _, valL_2 h1, by simp⟩)
  · exact .inr (.inr ⟨h1, _, valL_3 h1, by simp⟩)
/-- A text that does not open with a bracket, or is but one byte. -/
theorem vis_atom {l : List UInt8} {x n : Int} {t y : ByteArray} (h : AtmIs l x n t y true) (hc : ∀ r, 1 ≤ r.length → ¬ l = 91 :: r ∧ ¬ l = 123 :: r) : VIs l ⟨1, ⟨x, n, t, y⟩, [], []⟩ true := by
  obtain ⟨g, e, h0, h1⟩ := h.yes rfl
  refine ⟨fun _ => ⟨.inl ⟨rfl, g, rfl, rfl⟩, by rw [valL_1 rfl]; exact e, ⟨atm_ok h, (fun q hq => by cases hq), (fun q hq => by cases hq)⟩⟩, fun v' hv hg e => ⟨rfl, ?_⟩, fun h => (by cases h)⟩
  rcases val_two hv hg with ⟨k1, _⟩ | ⟨_, r, e2, hr⟩ | ⟨_, r, e2, hr⟩
  · rcases hg with ⟨_, h2, h3, h4⟩ | ⟨k2, _⟩ | ⟨k2, _⟩
    · rw [valL_1 k1] at e
      obtain ⟨_, a, b, c, d⟩ := h.all _ _ _ _ h2 hv.a.n8 hv.a.n9 e
      obtain ⟨k, ⟨x', n', t', y'⟩, items, names⟩ := v'
      simp only at k1 h3 h4 a b c d
      rw [k1, h3, h4, a, b, c, d]
    · omega
    · omega
  · rw [e2] at e; exact absurd e.symm (hc r hr).1
  · rw [e2] at e; exact absurd e.symm (hc r hr).2
theorem vno_atom {l : List UInt8} {x n : Int} {t y : ByteArray} (h : AtmIs l x n t y false) (hc : ∀ r, 1 ≤ r.length → ¬ l = 91 :: r ∧ ¬ l = 123 :: r) : VIs l zVal false := by
  refine v_no (fun v' hv hg e => ?_)
  rcases val_two hv hg with ⟨k1, _⟩ | ⟨_, r, e2, hr⟩ | ⟨_, r, e2, hr⟩
  · rcases hg with ⟨_, h2, h3, h4⟩ | ⟨k2, _⟩ | ⟨k2, _⟩
    · rw [valL_1 k1] at e
      have := (h.all _ _ _ _ h2 hv.a.n8 hv.a.n9 e).1
      cases this
    · omega
    · omega
  · rw [e2] at e; exact absurd e.symm (hc r hr).1
  · rw [e2] at e; exact absurd e.symm (hc r hr).2
/-- What spec.ValueText says of any value. -/
theorem vtext (v : ValT) (hv : v.Ok) : ∃ T : ByteArray, (∀ (a1 a2 : Option Addr) (l1 c1 l2 c2 : Nat) (w : World), SlA w a1 l1 v.items → SlS w a2 l2 v.names →
    Calls Tryz.prog 34 #[.agg #[.int .i64 v.k, .int .i64 v.a.x, .int .i64 v.a.n, .string v.a.t, .string v.a.y, .slice a1 l1 c1, .slice a2 l2 c2]] w fun e w' => e = .returned (.string T) ∧ Below w.heap.size w w') ∧ ((GoodVal v ∧ T = ⟨(valL v).toArray⟩) ∨ (¬ GoodVal v ∧ T = ⟨#[]⟩)) := by
  by_cases hg : GoodVal v
  · exact ⟨_, fun a1 a2 l1 c1 l2 c2 w h1 h2 => sValueText_yes v hv a1 a2 l1 c1 l2 c2 w h1 h2 hg, .inl ⟨hg, rfl⟩⟩
  · exact ⟨_, fun a1 a2 l1 c1 l2 c2 w h1 h2 => sValueText_not v hv a1 a2 l1 c1 l2 c2 w h1 h2 hg, .inr ⟨hg, rfl⟩⟩
theorem vis_end {s : ByteArray} {v : ValT} {T : ByteArray} (hz : 1 ≤ s.size) (hgu : GuessV s.data.toList v) (hT : (GoodVal v ∧ T = ⟨(valL v).toArray⟩) ∨ (¬ GoodVal v ∧ T = ⟨#[]⟩)) : (T = s → VIs s.data.toList v true) ∧ (¬ T = s → VIs s.data.toList zVal false) := by
  refine ⟨fun e => ?_, fun e => ?_⟩
  · rcases hT with ⟨h1, h2⟩ | ⟨_, h2⟩
    · exact ⟨fun _ => ⟨h1, by rw [← e, h2], hgu.ok⟩, fun v' a b e => ⟨rfl, hgu.fit v' a b e⟩, fun h => (by cases h)⟩
    · rw [h2] at e
      rw [← e] at hz
      exact absurd hz (by decide)
  · refine v_no (fun v' a b e2 => ?_)
    have := hgu.fit v' a b e2
    subst this
    rcases hT with ⟨_, h2⟩ | ⟨h1, _⟩
    · exact e (by rw [h2, e2, mk_list])
    · exact h1 b
/-- The parts of what stands between the brackets. -/
theorem parts_items {l : List UInt8} {R : List (List UInt8)} (h : PartsAre (midL l) R) : ∀ L, Fits (midL l) L → R = L := h.all
/-- Of a good set the pieces are the parts. -/
theorem set_parts {l : List UInt8} {R : List (List UInt8)} (hp : PartsAre (midL l) R) (hc : ∃ r, l = 91 :: r) {v' : ValT} (hv : v'.Ok) (hg : GoodVal v') (e : valL v' = l) : v'.k = 2 ∧ zeroA v'.a ∧ v'.names = [] ∧ R = v'.items.map AtomT.l ∧ ∀ a ∈ v'.items, a.good = true ∧ a.Ok := by
  obtain ⟨r, hc⟩ := hc
  rcases hg with ⟨h1, h2, _, _⟩ | ⟨h1, h2, h3, h4, _, h6⟩ | ⟨h1, _⟩
  · exfalso
    obtain ⟨c, r', e2, n1, _⟩ := good_first hv h1 h2
    rw [e2, hc] at e
    injection e with e
    exact n1 e
  · have hA : ∀ a ∈ v'.items, a.good = true ∧ a.Ok := fun a ha => by
      obtain ⟨j, hj, rfl⟩ := List.getElem_of_mem ha
      exact ⟨h4 j hj hj, hv.items _ (List.getElem_mem _)⟩
    have em : midL l = Lib.join (v'.items.map AtomT.l) [44] := by rw [← e, valL_2 h1, mid_of]
    refine ⟨h1, h2, h6, ?_, hA⟩
    by_cases hn : v'.items = []
    · rw [hp.nil (by rw [em, hn]; rfl), hn]; rfl
    · exact hp.all _ (by rw [em]; exact fits_set hA h3 hn)
  · exfalso
    rw [valL_3 h1, hc] at e
    injection e with e
    exact absurd e (by decide)
theorem set_guess {l : List UInt8} {R : List (List UInt8)} {I : List AtomT} (hp : PartsAre (midL l) R) (hr : RdOf R I) (hl : I.length = R.length) (hc : ∃ r, l = 91 :: r) : GuessV l ⟨2, zA, I, []⟩ := by
  refine ⟨⟨zA_ok, fun q hq => ?_, fun q hq => by cases hq⟩, fun v' hv hg e => ?_⟩
  · obtain ⟨j, hj, rfl⟩ := List.getElem_of_mem hq
    obtain ⟨ok, ha⟩ := hr.each j hj (by have : j < I.length := hj; omega)
    exact atm_ok ha
  · obtain ⟨h1, h2, h3, h4, h5⟩ := set_parts hp hc hv hg e
    have eI := hr.is hl h4 h5
    obtain ⟨k, a, items, names⟩ := v'
    simp only at h1 h2 h3 eI
    rw [eI, h1, h3, zeroA_eq h2]
theorem set_bad {l : List UInt8} {R : List (List UInt8)} {k : Nat} (hp : PartsAre (midL l) R) (hk : k < R.length) (hc : ∃ r, l = 91 :: r) {x n : Int} {t y : ByteArray} (ha : AtmIs R[k] x n t y false) : VIs l zVal false := by
  refine v_no (fun v' hv hg e => ?_)
  obtain ⟨_, _, _, h4, h5⟩ := set_parts hp hc hv hg e
  have hk2 : k < v'.items.length := by rw [h4, List.length_map] at hk; exact hk
  obtain ⟨g, o⟩ := h5 v'.items[k] (List.getElem_mem _)
  have e2 : R[k] = (v'.items[k]).l := by simp [h4]
  rw [e2] at ha
  have := (ha.all _ _ _ _ g o.n8 o.n9 rfl).1
  cases this
/-- Of a good record the pieces are the parts. -/
theorem rec_parts {l : List UInt8} {R : List (List UInt8)} (hp : PartsAre (midL l) R) (hc : ∃ r, l = 123 :: r) {v' : ValT} (hv : v'.Ok) (hg : GoodVal v') (e : valL v' = l) :
    v'.k = 3 ∧ zeroA v'.a ∧ v'.names.length = v'.items.length ∧ R.length = v'.items.length ∧ ∀ j (h1 : j < R.length) (h2 : j < v'.names.length) (h3 : j < v'.items.length), R[j] = (v'.names[j]).data.toList ++ 58 :: (v'.items[j]).l ∧ (58 : UInt8) ∉ (v'.names[j]).data.toList ∧ (v'.items[j]).good = true ∧ (v'.items[j]).Ok := by
  obtain ⟨r, hc⟩ := hc
  rcases hg with ⟨h1, h2, _, _⟩ | ⟨h1, _⟩ | ⟨h1, h2, h3, h4, h5, h6, _⟩
  · exfalso
    obtain ⟨c, r', e2, _, n1⟩ := good_first hv h1 h2
    rw [e2, hc] at e
    injection e with e
    exact n1 e
  · exfalso
    rw [valL_2 h1, hc] at e
    injection e with e
    exact absurd e (by decide)
  · obtain ⟨Z, hZ⟩ : ∃ Z, List.zipWith (fun n a => n.data.toList ++ 58 :: AtomT.l a) v'.names v'.items = Z := ⟨_, rfl⟩
    have em : midL l = Lib.join Z [44] := by rw [← e, valL_3 h1, mid_of, hZ]
    have lZ : Z.length = v'.items.length := by rw [← hZ, List.length_zipWith]; omega
    have gZ : ∀ j (hj : j < Z.length), Z[j] = (v'.names[j]'(by omega)).data.toList ++ 58 :: (v'.items[j]'(by omega)).l := fun j hj => by simp [← hZ]
    have gA : ∀ j (hj : j < v'.items.length), (v'.items[j]).good = true ∧ (v'.items[j]).Ok := fun j hj => ⟨h4 j hj hj, hv.items _ (List.getElem_mem _)⟩
    have gN : ∀ j (hj : j < v'.names.length), goodName v'.names[j] = true := fun j hj => h6 j hj hj
    have eR : R = Z := by
      by_cases hn : v'.items = []
      · have z0 : Z = [] := List.length_eq_zero_iff.1 (by rw [lZ, hn]; rfl)
        rw [z0]
        exact hp.nil (by rw [em, z0]; rfl)
      · refine hp.all Z (by
          rw [em]
          refine ⟨⟨?_, by omega⟩, fun p hp => ?_, rfl⟩
          · have : 0 < v'.items.length := List.length_pos_iff.2 hn
            omega
          · obtain ⟨j, hj, rfl⟩ := List.getElem_of_mem hp
            rw [gZ j hj]
            obtain ⟨g, o⟩ := gA j (by omega)
            have e2 : (v'.names[j]'(by omega)).data.toList ++ 58 :: (v'.items[j]'(by omega)).l = ((v'.names[j]'(by omega)).data.toList ++ [58]) ++ (v'.items[j]'(by omega)).l := by simp
            refine ⟨?_, by simp⟩
            rw [e2]
            exact ((pass_name (gN j (by omega))).app (pass_one (by decide) (by decide))).app (pass_atom g o.n8 o.n9))
    subst eR
    exact ⟨h1, h2, h5, lZ, fun j a b c => ⟨gZ j a, fun h => (okc_plain ((name_parts (gN j (by omega))).2 _ h)).2.2 rfl, gA j c⟩⟩
theorem rec_guess {l : List UInt8} {R N : List (List UInt8)} {I : List AtomT} (hs : l.length ≤ 1048576) (hp : PartsAre (midL l) R) (hr : RdRec R N I) (hl : I.length = R.length) (hc : ∃ r, l = 123 :: r) : GuessV l ⟨3, zA, I, N.map mkB⟩ := by
  have hln := hr.ln
  have hm : (midL l).length ≤ l.length := by unfold midL; rw [List.length_take, List.length_drop]; omega
  refine ⟨⟨zA_ok, fun q hq => ?_, fun q hq => ?_⟩, fun v' hv hg e => ?_⟩
  · obtain ⟨j, hj, rfl⟩ := List.getElem_of_mem hq
    have hj' : j < I.length := hj
    obtain ⟨_, ok, ha⟩ := hr.each j hj (by omega) (by omega)
    exact atm_ok ha
  · obtain ⟨p, hp', rfl⟩ := List.mem_map.1 hq
    obtain ⟨j, hj, rfl⟩ := List.getElem_of_mem hp'
    obtain ⟨e1, _⟩ := hr.each j (by omega) (by omega) hj
    have := hp.each R[j] (List.getElem_mem _)
    have h2 := (cut_len 58 R[j]).1
    unfold mkB
    rw [sz_arr, e1]
    unfold maxLen
    omega
  · obtain ⟨h1, h2, h3, h4, h5⟩ := rec_parts hp hc hv hg e
    have eI : I = v'.items := by
      apply List.ext_getElem (by omega)
      intro j a1 a2
      obtain ⟨_, ok, ha⟩ := hr.each j a1 (by omega) (by omega)
      obtain ⟨x1, x2, x3, x4⟩ := h5 j (by omega) (by omega) a2
      rw [x1, cutC_app 58 _ _ x2] at ha
      obtain ⟨_, a, b, c, d⟩ := ha.all _ _ _ _ x3 x4.n8 x4.n9 rfl
      cases hI : I[j] with
      | mk x n t y =>
        rw [hI] at a b c d
        simp only at a b c d
        rw [a, b, c, d]
    have eN : N.map mkB = v'.names := by
      apply List.ext_getElem (by rw [List.length_map]; omega)
      intro j a1 a2
      rw [List.length_map] at a1
      obtain ⟨e1, _⟩ := hr.each j (by omega) (by omega) a1
      obtain ⟨x1, x2, _, _⟩ := h5 j (by omega) a2 (by omega)
      rw [x1, cutC_app 58 _ _ x2] at e1
      rw [List.getElem_map, e1]
      unfold mkB
      exact mk_list _
    obtain ⟨k, a, items, names⟩ := v'
    simp only at h1 h2 eI eN
    rw [eI, eN, h1, zeroA_eq h2]
theorem rec_bad {l : List UInt8} {R : List (List UInt8)} {k : Nat} (hp : PartsAre (midL l) R) (hk : k < R.length) (hc : ∃ r, l = 123 :: r) {x n : Int} {t y : ByteArray} (ha : AtmIs (cutC 58 R[k]).2 x n t y false) : VIs l zVal false := by
  refine v_no (fun v' hv hg e => ?_)
  obtain ⟨_, _, h3, h4, h5⟩ := rec_parts hp hc hv hg e
  obtain ⟨x1, x2, x3, x4⟩ := h5 k hk (by omega) (by omega)
  rw [x1, cutC_app 58 _ _ x2] at ha
  have := (ha.all _ _ _ _ x3 x4.n8 x4.n9 rfl).1
  cases this
theorem rec_none {l : List UInt8} {R : List (List UInt8)} {k : Nat} (hp : PartsAre (midL l) R) (hk : k < R.length) (hc : ∃ r, l = 123 :: r) (ha : (58 : UInt8) ∉ R[k]) : VIs l zVal false := by
  refine v_no (fun v' hv hg e => ?_)
  obtain ⟨_, _, h3, h4, h5⟩ := rec_parts hp hc hv hg e
  obtain ⟨x1, _⟩ := h5 k hk (by omega) (by omega)
  rw [x1] at ha
  exact ha (by simp)
end Go.Proofs.YticidjceljjfnaaGreatDoor.V
/- Reading tuples, pure: what the cuts of a tuple's text are, on both sides. -/
namespace Go.Proofs.YticidjceljjfnaaGreatDoor.V
open Go.RowKit
set_option maxRecDepth 20000

abbrev e0 : ByteArray := ⟨#[]⟩
abbrev zTup : TupT := ⟨e0, e0, e0, e0, e0, e0, e0, zVal⟩
def srL (t : TupT) : List UInt8 := if t.srel = e0 then [] else 35 :: t.srel.data.toList
def cvL (t : TupT) : List UInt8 := if t.cav = e0 then [] else 91 :: (t.cav.data.toList ++ 58 :: (valL t.g ++ [93]))
def tupL (t : TupT) : List UInt8 := t.ty.data.toList ++ 58 :: (t.id.data.toList ++ 35 :: (t.rel.data.toList ++ 64 :: (t.sty.data.toList ++ 58 :: (t.sid.data.toList ++ (srL t ++ cvL t)))))
theorem emp_list {s : ByteArray} : s = e0 ↔ s.data.toList = [] := by
  constructor
  · rintro rfl; rfl
  · intro h; exact Go.WideShapes.bytes_inj (by rw [h])
theorem tup_list (t : TupT) : (tupT t).data.toList = tupL t := by
  unfold tupT subT tupL srL cvL subR cavR valX
  by_cases h1 : t.srel = e0 <;> by_cases h2 : t.cav = e0 <;> simp [h1, h2, ByteArray.data_append]

structure TIs (l : List UInt8) (t : TupT) (ok : Bool) : Prop where
  yes : ok = true → Form t ∧ tupL t = l ∧ t.Ok
  all : ∀ t' : TupT, t'.Ok → Form t' → tupL t' = l → ok = true ∧ t = t'
  zero : ok = false → t = zTup
theorem TIs.uniq {l : List UInt8} {v v' : TupT} {ok ok' : Bool} (h : TIs l v ok) (g : TIs l v' ok') : ok = ok' ∧ v = v' := by
  cases ok with
  | true =>
    obtain ⟨a, b, c⟩ := h.yes rfl
    obtain ⟨d, e⟩ := g.all _ c a b
    exact ⟨d.symm, e.symm⟩
  | false =>
    cases ok' with
    | true =>
      obtain ⟨a, b, c⟩ := g.yes rfl
      have := (h.all _ c a b).1
      cases this
    | false => exact ⟨rfl, (h.zero rfl).trans (g.zero rfl).symm⟩
theorem t_no {l : List UInt8} (h : ∀ v' : TupT, v'.Ok → Form v' → ¬ tupL v' = l) : TIs l zTup false := ⟨fun h => (by cases h), fun v' a b e => absurd e (h v' a b), fun _ => rfl⟩
structure GuessT (l : List UInt8) (t : TupT) : Prop where
  ok : t.Ok
  fit : ∀ t' : TupT, t'.Ok → Form t' → tupL t' = l → t = t'
theorem tis_end {s : ByteArray} {t : TupT} {r : ByteArray} (hz : 1 ≤ s.size) (hgu : GuessT s.data.toList t) (hT : TxtIs t r) : (r = s → TIs s.data.toList t true) ∧ (¬ r = s → TIs s.data.toList zTup false) := by
  refine ⟨fun e => ?_, fun e => ?_⟩
  · by_cases hf : Form t
    · exact ⟨fun _ => ⟨hf, by rw [← tup_list, ← hT.1 hf, e], hgu.ok⟩, fun v' a b e => ⟨rfl, hgu.fit v' a b e⟩, fun h => (by cases h)⟩
    · rw [hT.2 hf] at e
      rw [← e] at hz
      exact absurd hz (by decide)
  · refine t_no (fun v' a b e2 => ?_)
    have := hgu.fit v' a b e2
    subst this
    exact e (by rw [hT.1 b]; exact Go.WideShapes.bytes_inj (by rw [tup_list, e2]))
theorem tis_nil : TIs [] zTup false := t_no (fun v' _ _ e => by unfold tupL at e; simp at e)

/-- Bytes that are no sign of a tuple's text. -/
def Pl (l : List UInt8) : Prop := ∀ c ∈ l, c ≠ 91 ∧ c ≠ 64 ∧ c ≠ 35 ∧ c ≠ 58
theorem okc_pl : ∀ c : UInt8, okcB c = true → c ≠ 91 ∧ c ≠ 64 ∧ c ≠ 35 ∧ c ≠ 58 := by
  intro c h
  refine ⟨?_, ?_, ?_, ?_⟩ <;> (rintro rfl; revert h; decide)
theorem idc_pl : ∀ c : UInt8, idcB c = true → c ≠ 91 ∧ c ≠ 64 ∧ c ≠ 35 ∧ c ≠ 58 := by
  intro c h
  refine ⟨?_, ?_, ?_, ?_⟩ <;> (rintro rfl; revert h; decide)
theorem name_pl {s : ByteArray} (h : goodName s = true) : Pl s.data.toList := fun c hc => okc_pl c ((name_parts h).2 c hc)
theorem id_pl {s : ByteArray} (h : idB s = true) : Pl s.data.toList := by
  unfold idB at h
  rw [Bool.and_eq_true, List.all_eq_true] at h
  exact fun c hc => idc_pl c (h.2 c hc)
theorem sub_pl {s : ByteArray} (h : SubP s) : Pl s.data.toList := by
  rcases h with rfl | h
  · intro c hc
    have : c = 42 := by simpa using hc
    subst this; decide
  · exact id_pl h
theorem nam_pl {s : ByteArray} (h : NamP s) : Pl s.data.toList := by
  rcases h with rfl | h
  · intro c hc; simp at hc
  · exact name_pl h
theorem Pl.app {a b : List UInt8} (ha : Pl a) (hb : Pl b) : Pl (a ++ b) := fun c hc => (List.mem_append.1 hc).elim (ha c) (hb c)
theorem Pl.n91 {a : List UInt8} (h : Pl a) : (91 : UInt8) ∉ a := fun hc => (h _ hc).1 rfl
theorem Pl.n64 {a : List UInt8} (h : Pl a) : (64 : UInt8) ∉ a := fun hc => (h _ hc).2.1 rfl
theorem Pl.n35 {a : List UInt8} (h : Pl a) : (35 : UInt8) ∉ a := fun hc => (h _ hc).2.2.1 rfl
theorem Pl.n58 {a : List UInt8} (h : Pl a) : (58 : UInt8) ∉ a := fun hc => (h _ hc).2.2.2 rfl
theorem noV_eq {v : ValT} (h : NoV v) : v = zVal := by
  obtain ⟨h1, h2, h3, h4⟩ := h
  have := zeroA_eq h2
  cases v
  simp only at h1 h3 h4 this
  subst h1 h3 h4 this
  rfl
theorem val_ne {v : ValT} (hv : v.Ok) (hg : GoodVal v) : ¬ valL v = [] := by
  rcases val_two hv hg with ⟨_, c, r, e, _⟩ | ⟨_, r, e, _⟩ | ⟨_, r, e, _⟩ <;> (rw [e]; simp)
theorem vis_emp {v : ValT} {ok : Bool} (h : VIs [] v ok) : v = zVal := by
  cases ok with
  | true =>
    obtain ⟨a, b, c⟩ := h.yes rfl
    exact absurd b (val_ne c a)
  | false => exact h.zero rfl

theorem tup_61000 {t : TupT} (ht : t.Ok) (hf : Form t) : (tupL t).length ≤ 61000 := by
  have z := hf.small
  have f : ∀ s : ByteArray, s.data.toList.length = s.size := fun s => by simp
  have h1 : (srL t).length ≤ 41 := by
    unfold srL
    split
    · simp
    · rw [List.length_cons, f]; have := z.z5; omega
  have h2 : (cvL t).length ≤ 60100 := by
    unfold cvL
    split
    · simp
    · rename_i hc
      have h3 := val_60000 ht.g (hf.recd hc).2
      rw [List.length_cons, List.length_append, List.length_cons, List.length_append, f]
      have := z.z6
      simp only [List.length_singleton]
      omega
  unfold tupL
  simp only [List.length_append, List.length_cons, f]
  have := z.z0; have := z.z1; have := z.z2; have := z.z3; have := z.z4
  omega

/-- What impl.guessTuple cuts. -/
structure CutI (l plain within ob0 su0 ob rel ty id su srel sty sid tr cav given : List UInt8) : Prop where
  c1 : (plain, within) = cutC 91 l
  c2 : (ob0, su0) = cutC 64 plain
  c3 : (ob, rel) = cutC 35 ob0
  c4 : (ty, id) = cutC 58 ob
  c5 : (su, srel) = cutC 35 su0
  c6 : (sty, sid) = cutC 58 su
  c7 : tr = Lib.trimSuffix within [93]
  c8 : (cav, given) = cutC 58 tr
theorem cuti_fits {l plain within ob0 su0 ob rel ty id su srel sty sid tr cav given : List UInt8} (h : CutI l plain within ob0 su0 ob rel ty id su srel sty sid tr cav given) (t : TupT) (hf : Form t) (e : tupL t = l) :
    ty = t.ty.data.toList ∧ id = t.id.data.toList ∧ rel = t.rel.data.toList ∧ sty = t.sty.data.toList ∧ sid = t.sid.data.toList ∧ srel = t.srel.data.toList ∧ cav = t.cav.data.toList ∧ given = (if t.cav = e0 then [] else valL t.g) := by
  subst e
  have P0 := name_pl hf.p0
  have P1 := id_pl hf.p1
  have P2 := name_pl hf.p2
  have P3 := name_pl hf.p3
  have P4 := sub_pl hf.p4
  have P5 := nam_pl hf.p5
  have P6 := nam_pl hf.p6
  have hsr : ∀ c ∈ srL t, c ≠ 91 ∧ c ≠ 64 ∧ c ≠ 58 := by
    unfold srL
    split
    · intro c hc; simp at hc
    · intro c hc
      rcases List.mem_cons.1 hc with rfl | hc
      · decide
      · exact ⟨(P5 c hc).1, (P5 c hc).2.1, (P5 c hc).2.2.2⟩
  have n91 : (91 : UInt8) ∉ t.ty.data.toList ++ 58 :: (t.id.data.toList ++ 35 :: (t.rel.data.toList ++ 64 :: (t.sty.data.toList ++ 58 :: (t.sid.data.toList ++ srL t)))) := by
    simp only [List.mem_append, List.mem_cons, not_or]
    exact ⟨P0.n91, by decide, P1.n91, by decide, P2.n91, by decide, P3.n91, by decide, P4.n91, fun h => (hsr _ h).1 rfl⟩
  have hc1 : (plain, within) = (t.ty.data.toList ++ 58 :: (t.id.data.toList ++ 35 :: (t.rel.data.toList ++ 64 :: (t.sty.data.toList ++ 58 :: (t.sid.data.toList ++ srL t)))), (cvL t).drop 1) := by
    rw [h.c1]
    unfold tupL cvL
    split
    · rw [List.append_nil, cutC_none _ _ n91]; rfl
    · have := cutC_app 91 _ (t.cav.data.toList ++ 58 :: (valL t.g ++ [93])) n91
      simp only [List.append_assoc, List.cons_append] at this
      rw [this]; rfl
  obtain ⟨rfl, rfl⟩ := Prod.mk.injEq .. ▸ hc1
  have hc2 := h.c2
  have a2 := cutC_app 64 (t.ty.data.toList ++ 58 :: (t.id.data.toList ++ 35 :: t.rel.data.toList)) (t.sty.data.toList ++ 58 :: (t.sid.data.toList ++ srL t)) (by
    simp only [List.mem_append, List.mem_cons, not_or]
    exact ⟨P0.n64, by decide, P1.n64, by decide, P2.n64⟩)
  simp only [List.append_assoc, List.cons_append] at a2
  rw [a2] at hc2
  obtain ⟨rfl, rfl⟩ := Prod.mk.injEq .. ▸ hc2
  have hc3 := h.c3
  have a3 := cutC_app 35 (t.ty.data.toList ++ 58 :: t.id.data.toList) t.rel.data.toList (by
    simp only [List.mem_append, List.mem_cons, not_or]
    exact ⟨P0.n35, by decide, P1.n35⟩)
  simp only [List.append_assoc, List.cons_append] at a3
  rw [a3] at hc3
  obtain ⟨rfl, rfl⟩ := Prod.mk.injEq .. ▸ hc3
  have hc4 := h.c4
  rw [cutC_app 58 _ _ P0.n58] at hc4
  obtain ⟨rfl, rfl⟩ := Prod.mk.injEq .. ▸ hc4
  have n35 : (35 : UInt8) ∉ t.sty.data.toList ++ 58 :: t.sid.data.toList := by
    simp only [List.mem_append, List.mem_cons, not_or]
    exact ⟨P3.n35, by decide, P4.n35⟩
  have hc5 : (su, srel) = (t.sty.data.toList ++ 58 :: t.sid.data.toList, t.srel.data.toList) := by
    rw [h.c5]
    unfold srL
    split
    · rename_i hs
      rw [List.append_nil, cutC_none _ _ n35, emp_list.1 hs]
    · have := cutC_app 35 _ t.srel.data.toList n35
      simp only [List.append_assoc, List.cons_append] at this
      exact this
  obtain ⟨rfl, rfl⟩ := Prod.mk.injEq .. ▸ hc5
  have hc6 := h.c6
  rw [cutC_app 58 _ _ P3.n58] at hc6
  obtain ⟨rfl, rfl⟩ := Prod.mk.injEq .. ▸ hc6
  have hc8 := h.c8
  have hc7 := h.c7
  refine ⟨rfl, rfl, rfl, rfl, rfl, rfl, ?_⟩
  by_cases hcv : t.cav = e0
  · have : tr = [] := by
      rw [hc7]; unfold cvL; rw [if_pos hcv]; rfl
    subst this
    rw [if_pos hcv, emp_list.1 hcv]
    have : (cav, given) = ([], []) := hc8
    obtain ⟨rfl, rfl⟩ := Prod.mk.injEq .. ▸ this
    exact ⟨rfl, rfl⟩
  · have : tr = t.cav.data.toList ++ 58 :: valL t.g := by
      rw [hc7]; unfold cvL; rw [if_neg hcv]
      have e1 : ([91] ++ (t.cav.data.toList ++ 58 :: (valL t.g ++ [93]))).drop 1 = (t.cav.data.toList ++ 58 :: valL t.g) ++ [93] := by simp
      show Lib.trimSuffix (([91] ++ (t.cav.data.toList ++ 58 :: (valL t.g ++ [93]))).drop 1) [93] = _
      rw [e1]
      unfold Lib.trimSuffix Lib.hasSuffix
      rw [if_pos (List.isSuffixOf_iff_suffix.2 (List.suffix_append _ _)), List.length_append, Nat.add_sub_cancel]
      exact List.take_left
    subst this
    rw [cutC_app 58 _ _ P6.n58] at hc8
    obtain ⟨rfl, rfl⟩ := Prod.mk.injEq .. ▸ hc8
    rw [if_neg hcv]
    exact ⟨rfl, rfl⟩

def unA (st l : List UInt8) : List UInt8 := l.take (untN st l)
def unB (st l : List UInt8) : List UInt8 := l.drop (untN st l)
theorem un_app {st a r : List UInt8} {c : UInt8} (ha : ∀ x ∈ a, st.contains x = false) (hc : st.contains c = true) : unA st (a ++ c :: r) = a ∧ unB st (a ++ c :: r) = c :: r := by
  unfold unA unB
  rw [untN_app ha hc]
  exact ⟨List.take_left, List.drop_left⟩
theorem un_no {st a : List UInt8} (ha : ∀ x ∈ a, st.contains x = false) : unA st a = a ∧ unB st a = [] := by
  unfold unA unB
  rw [untN_no (fun j hj => ha _ (List.getElem_mem hj))]
  exact ⟨List.take_length, List.drop_length⟩
theorem pl_58 {a : List UInt8} (h : Pl a) : ∀ x ∈ a, ([58] : List UInt8).contains x = false := fun x hx => by
  have := (h x hx).2.2.2
  simpa using this
theorem pl_35 {a : List UInt8} (h : Pl a) : ∀ x ∈ a, ([35] : List UInt8).contains x = false := fun x hx => by
  have := (h x hx).2.2.1
  simpa using this
theorem pl_64 {a : List UInt8} (h : Pl a) : ∀ x ∈ a, ([64] : List UInt8).contains x = false := fun x hx => by
  have := (h x hx).2.1
  simpa using this
theorem pl_91 {a : List UInt8} (h : Pl a) : ∀ x ∈ a, ([91] : List UInt8).contains x = false := fun x hx => by
  have := (h x hx).1
  simpa using this
theorem pl_39 {a : List UInt8} (h : Pl a) : ∀ x ∈ a, ([35, 91] : List UInt8).contains x = false := fun x hx => by
  have h1 := (h x hx).1
  have h2 := (h x hx).2.2.1
  simp [h1, h2]
/-- What spec.ReadTuple cuts first. -/
structure CutS (l typ r1 id r2 rel r3 sty r4 sid rest : List UInt8) : Prop where
  c1 : typ = unA [58] l
  d1 : r1 = (unB [58] l).drop 1
  c2 : id = unA [35] r1
  d2 : r2 = (unB [35] r1).drop 1
  c3 : rel = unA [64] r2
  d3 : r3 = (unB [64] r2).drop 1
  c4 : sty = unA [58] r3
  d4 : r4 = (unB [58] r3).drop 1
  c5 : sid = unA [35, 91] r4
  d5 : rest = unB [35, 91] r4
theorem cuts_fits {l typ r1 id r2 rel r3 sty r4 sid rest : List UInt8} (h : CutS l typ r1 id r2 rel r3 sty r4 sid rest) (t : TupT) (hf : Form t) (e : tupL t = l) :
    typ = t.ty.data.toList ∧ id = t.id.data.toList ∧ rel = t.rel.data.toList ∧ sty = t.sty.data.toList ∧ sid = t.sid.data.toList ∧ rest = srL t ++ cvL t := by
  subst e
  obtain ⟨c1, d1, c2, d2, c3, d3, c4, d4, c5, d5⟩ := h
  unfold tupL at c1 d1
  rw [(un_app (pl_58 (name_pl hf.p0)) rfl).1] at c1
  rw [(un_app (pl_58 (name_pl hf.p0)) rfl).2, List.drop_succ_cons, List.drop_zero] at d1
  subst d1
  rw [(un_app (pl_35 (id_pl hf.p1)) rfl).1] at c2
  rw [(un_app (pl_35 (id_pl hf.p1)) rfl).2, List.drop_succ_cons, List.drop_zero] at d2
  subst d2
  rw [(un_app (pl_64 (name_pl hf.p2)) rfl).1] at c3
  rw [(un_app (pl_64 (name_pl hf.p2)) rfl).2, List.drop_succ_cons, List.drop_zero] at d3
  subst d3
  rw [(un_app (pl_58 (name_pl hf.p3)) rfl).1] at c4
  rw [(un_app (pl_58 (name_pl hf.p3)) rfl).2, List.drop_succ_cons, List.drop_zero] at d4
  subst d4
  refine ⟨c1, c2, c3, c4, ?_⟩
  have P4 := pl_39 (sub_pl hf.p4)
  have hx : srL t ++ cvL t = [] ∨ ∃ c r, srL t ++ cvL t = c :: r ∧ ([35, 91] : List UInt8).contains c = true := by
    unfold srL cvL
    split
    · split
      · exact .inl rfl
      · exact .inr ⟨_, _, rfl, by decide⟩
    · exact .inr ⟨_, _, rfl, by decide⟩
  rcases hx with hx | ⟨c, r, hx, hc⟩
  · rw [hx, List.append_nil] at c5 d5
    rw [(un_no P4).1] at c5
    rw [(un_no P4).2] at d5
    exact ⟨c5, by rw [hx]; exact d5⟩
  · rw [hx] at c5 d5
    rw [(un_app P4 hc).1] at c5
    rw [(un_app P4 hc).2] at d5
    exact ⟨c5, by rw [hx]; exact d5⟩
theorem rest_35 {t : TupT} (hf : Form t) {r : List UInt8} (e : srL t ++ cvL t = 35 :: r) : unA [91] r = t.srel.data.toList ∧ unB [91] r = cvL t := by
  have hs : ¬ t.srel = e0 := by
    intro hs
    unfold srL cvL at e
    rw [if_pos hs] at e
    split at e
    · cases e
    · simp at e
  unfold srL at e
  rw [if_neg hs, List.cons_append] at e
  have e2 := (List.cons.inj e).2
  subst e2
  have P := pl_91 (nam_pl hf.p5)
  unfold cvL
  split
  · rw [List.append_nil]; exact un_no P
  · exact un_app P rfl
theorem rest_not {t : TupT} (e : ∀ r, ¬ srL t ++ cvL t = 35 :: r) : t.srel = e0 ∧ srL t ++ cvL t = cvL t := by
  have hs : t.srel = e0 := Classical.byContradiction fun hs => by
    unfold srL at e
    rw [if_neg hs] at e
    exact e _ rfl
  refine ⟨hs, ?_⟩
  unfold srL
  rw [if_pos hs]; rfl
theorem cv_nil {t : TupT} (e : cvL t = []) : t.cav = e0 := Classical.byContradiction fun hs => by
  unfold cvL at e
  rw [if_neg hs] at e
  cases e
theorem cv_cons {t : TupT} (hf : Form t) {c : UInt8} {r : List UInt8} (e : cvL t = c :: r) : ¬ t.cav = e0 ∧ unA [58] r = t.cav.data.toList ∧ unB [58] r = 58 :: (valL t.g ++ [93]) := by
  have hs : ¬ t.cav = e0 := fun hs => by
    unfold cvL at e
    rw [if_pos hs] at e
    cases e
  unfold cvL at e
  rw [if_neg hs] at e
  have e2 := (List.cons.inj e).2
  subst e2
  exact ⟨hs, un_app (pl_58 (nam_pl hf.p6)) rfl⟩
end Go.Proofs.YticidjceljjfnaaGreatDoor.V
