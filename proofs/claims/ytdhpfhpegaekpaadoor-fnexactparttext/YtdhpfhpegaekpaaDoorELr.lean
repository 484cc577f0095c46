/- slices.Repeat of one int; a slice of ints cut off. -/
import Derived.Test.YtdhpfhpegaekpaaDoorELp
import Derived.Test.YtdhpfhpegaekpaaDoorShelf
import Derived.Laws.CopyRow
import Derived.Laws.IdiomCopy
import Derived.Laws.OwnMore
import Derived.Laws.MakeOwn
import Derived.Maps.AppendAt
namespace Go.Proofs.YtdhpfhpegaekpaaDoor.V
set_option linter.unusedSimpArgs false
set_option linter.unusedVariables false
set_option maxRecDepth 20000
open Go.RowKit

theorem own_cut {w : World} {base e g n m cap : Nat} {xs : List Value} (h : w.ownsRow base e 1 (.slice (some ⟨g, 0, none⟩) n cap) n xs) (hm : m ≤ n) : w.ownsRow base e 1 (.slice (some ⟨g, 0, none⟩) m cap) m (xs.take m) := by
  rcases h.2 with ⟨h', _⟩ | ⟨g', cap', cur, h', hbg, hg, hnc, hcm, hcs, htake⟩
  · simp at h'
  · simp only [Value.slice.injEq, Option.some.injEq, Addr.mk.injEq, and_true, true_and] at h'
    obtain ⟨rfl, rfl⟩ := h'
    have hx := h.1
    refine ⟨by rw [List.length_take]; omega, .inr ⟨g, cap, cur, rfl, hbg, hg, by omega, hcm, hcs, ?_⟩⟩
    rw [← htake, List.take_take]
    congr 1
    omega
theorem own_kD {w w' : World} {base n e size : Nat} {v : Value} {xs : List Value} (h : w.ownsRow base e size v n xs) (hb : Below w.heap.size w w') : w'.ownsRow base e size v n xs := by
  refine ⟨h.1, h.2.imp_right ?_⟩
  rintro ⟨g, cap, cur, e1, h1, hh, r⟩
  exact ⟨g, cap, cur, e1, h1, RowIs.keep (T := e) hh hb, r⟩
/-- An append at a step of a region that draws its order, with where the row lies behind it. -/
theorem step_app_at {P : Program} (w : World) {ops : Array Oper} {o : Oper} {a : Act} {K : Act → World → Prop} {Q : Exit → Act → World → Prop} {E : Prop} (hgd : o.guard = none) (s x : Operand) (t : TypeId)
    (ho : o.op = .call { callee := .builtin .append, args := #[s, x], argTypes := #[t, t] })
    (base : Nat) (e : TypeId) (i : TypeInfo) (z : Value) (size bytes : Nat) (ht : P.underlying t = some (.slice e)) (hi : P.info? e = some i) (hz : i.zero = some z)
    (hsize : i.size = size) (hby : i.bytes = bytes) (hzs : z.cells.size = size) (hsz : 0 < size)
    (v : Value) (n : Nat) (xs : List Value) (hs : a.eval s = v) (hown : w.ownsRow base e size v n xs)
    (ad : Addr) (m c : Nat) (news : List Value) (hx : a.eval x = .slice (some ad) m c) (hl : news.length = m * size) (hnews : ∀ j u, news[j]? = some u → w.cell? (ad.add j) = some u) (h1 : ∀ u ∈ news, u.oneCell' = true)
    (h63 : n + m ≤ maxLen) (hbytes : (n + m) * bytes ≤ 140737488355328) (hbase : base ≤ w.heap.size)
    (h : ∀ v' w', w'.ownsRow base e size v' (n + m) (xs ++ news) → w.grownBy w' v.ownBlock → (v'.ownBlock = v.ownBlock ∨ v'.ownBlock = some w.heap.size) → K (a.put o.dst v') w') :
    if Region.wanted o (yielded ops a.tmps) = true then Oper.wp P o a w K Q else E := by
  have hw : Region.wanted o (yielded ops a.tmps) = true := by simp [Region.wanted, hgd]
  rw [if_pos hw]
  obtain ⟨v', w', hr, h2, h3, _, h5⟩ := run_append_own_at (P := P) w base t o.type e i z size bytes ht hi hz hsize hby hzs hsz v n xs hown ad m c news hl hnews h1 h63 hbytes hbase
  unfold Oper.wp execOp
  simp only [ho, resolve, invoke, builtin, Sem.run_bind, Sem.run_pure, Result.andThen_ok, List.map_toArray, List.map_cons, List.map_nil, hs, hx, hr]
  exact h v' w' h2 h3 h5
theorem new1 (w : World) (v : Value) (T : TypeId) (q : Nat) (hq : q = w.heap.size) : ∀ j u, [v][j]? = some u → (w.alloc (.cells #[v] T)).cell? ((⟨q, 0, none⟩ : Addr).add j) = some u := by
  subst hq
  intro j u h
  match j, h with
  | 0, h =>
    simp at h; subst h
    have := RowIs.new w #[v] T
    exact this.at (o := 0) rfl
  | j + 1, h => simp at h
theorem newsR {w : World} {g n : Nat} {v : Value} {T : TypeId} (h : RowIs w g (List.replicate n v).toArray T) : ∀ j u, (List.replicate n v)[j]? = some u → w.cell? ((⟨g, 0, none⟩ : Addr).add j) = some u := by
  intro j u hv
  have e : ((⟨g, 0, none⟩ : Addr).add j) = ⟨g, j, none⟩ := by unfold Addr.add; split <;> simp_all
  rw [e, h.cell, List.getElem?_toArray]
  exact hv
def fillM (n m : Nat) (p : Int) : List Value := List.replicate m (.int .i64 p) ++ List.replicate (n - m) (.int .i64 0)
theorem fillM_len {n m : Nat} (p : Int) (h : m ≤ n) : (fillM n m p).length = n := by unfold fillM; simp; omega
theorem fillM_step {n m k : Nat} (p : Int) (h : m + k ≤ n) : (fillM n m p).take m ++ List.replicate k (.int .i64 p) ++ (fillM n m p).drop (m + k) = fillM n (m + k) p := by
  unfold fillM
  simp only [List.take_append, List.drop_append, List.take_replicate, List.drop_replicate, List.length_replicate, Nat.min_self, Nat.sub_self, Nat.zero_min, List.replicate_zero, List.append_nil]
  rw [show m - (m + k) = 0 by omega, show n - m - (m + k - m) = n - (m + k) by omega, List.replicate_zero, List.nil_append, List.replicate_append_replicate]
theorem fillM_cell {n m : Nat} (p : Int) {j : Nat} {v : Value} {k : Nat} (hk : k ≤ m) (h : (List.replicate k (Value.int .i64 p))[j]? = some v) : (fillM n m p)[j]? = some v := by
  obtain ⟨h1, h2⟩ := List.getElem?_eq_some_iff.1 h
  have hj : j < k := by simpa using h1
  unfold fillM
  rw [List.getElem?_append_left (by simp; omega), List.getElem?_replicate, if_pos (by omega)]
  rw [List.getElem_replicate] at h2
  rw [h2]
theorem info_int3 : (Tryd.prog.info? 3).map (fun i => (i.zero, i.size, i.bytes)) = some (some (.int .i64 0), 1, 8) := by kernel_rfl
theorem make_ints (n : Nat) (w : World) (h : n ≤ 1048576) : ∃ w1, (Instr.makeSlice 54 (.int .i64 (n : Int)) (.int .i64 (n : Int))).run Tryd.prog w = .ok (.slice (some ⟨w.heap.size, 0, none⟩) n n) w1 ∧
    Below w.heap.size w w1 ∧ RowIs w1 w.heap.size (fillM n 0 0).toArray 3 := by
  obtain ⟨i, h1, h2⟩ := Option.map_eq_some_iff.1 info_int3
  simp only [Prod.mk.injEq] at h2
  obtain ⟨hz, hsz, hby⟩ := h2
  have hr := run_make (P := Tryd.prog) w 54 3 i _ Tryd.underlying54 h1 hz .i64 .i64 (n : Int) (n : Int) (by omega) (by omega) (by rw [hby]; omega) (by omega)
  rw [Int.toNat_natCast, hsz, Nat.mul_one] at hr
  have e : madeCells (Value.int .i64 0).cells n = (fillM n 0 0).toArray := by
    refine Array.ext (by simp [fillM, madeCells]) (fun i h1 h2 => ?_)
    simp [madeCells, fillM, Value.cells, Nat.mod_one]
  refine ⟨_, hr, bAl (Below.refl _ _) _, ?_⟩
  rw [← e]; exact RowIs.new _ _ _
theorem fill0 (n : Nat) (p q : Int) : fillM n 0 p = fillM n 0 q := by simp [fillM]
theorem fill_one {w : World} {g n m : Nat} {p : Int} {T : TypeId} (h : RowIs w g (fillM n m p).toArray T) {k : Nat} (hk : k ≤ m) : ∀ j v, (List.replicate k (Value.int .i64 p))[j]? = some v → w.cell? ((⟨g, 0, none⟩ : Addr).add j) = some v := by
  intro j v hv
  have e : ((⟨g, 0, none⟩ : Addr).add j) = ⟨g, j, none⟩ := by unfold Addr.add; split <;> simp_all
  rw [e, h.cell, List.getElem?_toArray]
  exact fillM_cell p hk hv
/-- What is copied within the row. -/
theorem copy_in {w : World} {g n m : Nat} {p : Int} (ty : TypeId) (h : RowIs w g (fillM n m p).toArray 3) (hm : m < n) (h1 : 1 ≤ m) :
    (Builtin.copy_ #[54, 54] ty #[.slice (some ⟨g, m, none⟩) (n - m) (n - m), .slice (some ⟨g, 0, none⟩) m n]).run Tryd.prog w = .ok (.int .i64 ((min m (n - m) : Nat) : Int)) (w.setRow g (fillM n (m + min m (n - m)) p).toArray) := by
  have q := run_copy_row (P := Tryd.prog) w 54 54 ty 3 g m (n - m) (n - m) ⟨g, 0, none⟩ m n (fillM n m p).toArray 3 (List.replicate (min m (n - m)) (.int .i64 p)) Tryd.underlying54 (by kernel_rfl) h (by simp) (fill_one h (by omega)) (by rw [List.length_replicate, List.size_toArray, fillM_len p (by omega)]; omega) (fun v hv => by rw [List.eq_of_mem_replicate hv]; rfl)
  rw [List.length_replicate] at q
  rw [q]
  simp only [List.toList_toArray]
  rw [fillM_step p (by omega)]
  rfl
def RepO (w : World) (p : Int) (n : Nat) (e : Ending) (w' : World) : Prop := ∃ g, e = .returned (.slice (some ⟨g, 0, none⟩) n n) ∧ w.heap.size ≤ g ∧ RowIs w' g (List.replicate n (Value.int .i64 p)).toArray 3
set_option maxHeartbeats 2000000 in
theorem repeat_any (b : Nat) (p : Int) (n : Nat) (w : World) (hn : n ≤ 20) (hc : w.cell? ⟨b, 0, none⟩ = some (.int .i64 p)) (hb : b < w.heap.size) :
    Calls Tryd.prog 51 #[.slice (some ⟨b, 0, none⟩) 1 1, .int .i64 n] w fun e w' => RepO w p n e w' ∧ Below w.heap.size w w' := by
  obtain ⟨w1, hmk, hb1, hr1⟩ := make_ints n w (by omega)
  rw [fill0 n 0 p] at hr1
  have c1 := cellB hb1 hb hc
  have HC := hide c1
  have hq := hide (Tryd.bits_Mul 1 n (by omega) (by omega) w)
  have e1 : 1 * n / 18446744073709551616 = 0 := by omega
  have e2 : 1 * n % 18446744073709551616 = n := by omega
  rw [e1, e2] at hq
  have n0 : ¬ (n : Int) < 0 := by omega
  have hcpE : ∃ (m0 : Nat) (W1 : World), (∀ ty, (Builtin.copy_ #[54, 54] ty #[.slice (some ⟨w.heap.size, 0, none⟩) n n, .slice (some ⟨b, 0, none⟩) 1 1]).run Tryd.prog w1 = .ok (.int .i64 m0) W1) ∧ RowIs W1 w.heap.size (fillM n m0 p).toArray 3 ∧ Below w.heap.size w W1 ∧ m0 ≤ n ∧ (m0 = 0 → n = 0) := by
    by_cases h0 : n = 0
    · subst h0
      exact ⟨0, w1, fun ty => run_copy_none (P := Tryd.prog) w1 54 54 ty 3 _ _ 0 0 1 1 Tryd.underlying54 (by kernel_rfl) (by simp), hr1, hb1, Nat.le_refl _, fun h => h⟩
    · refine ⟨1, w1.setRow w.heap.size (fillM n 1 p).toArray, fun ty => ?_, setRow_heap _ _ _ _ _ _ hr1, bRow hb1 (Nat.le_refl _) _, by omega, fun h => by omega⟩
      have q := run_copy_row (P := Tryd.prog) w1 54 54 ty 3 w.heap.size 0 n n ⟨b, 0, none⟩ 1 1 (fillM n 0 p).toArray 3 [.int .i64 p] Tryd.underlying54 (by kernel_rfl) hr1 (show ([Value.int .i64 p] : List Value).length = Nat.min 1 n from (Nat.min_eq_left (show 1 ≤ n by omega)).symm) (fun j v hj => by
        match j, hj with
        | 0, hj => simp at hj; subst hj; exact c1
        | j + 1, hj => simp at hj) (by rw [List.size_toArray, fillM_len p (by omega)]; show 0 + 1 ≤ n; omega) (fun v hv => by simp at hv; subst hv; rfl)
      rw [q]
      have := fillM_step (n := n) (m := 0) (k := 1) p (by omega)
      simp only [List.toList_toArray]
      rw [show ([Value.int .i64 p] : List Value) = List.replicate 1 (.int .i64 p) from rfl, List.length_replicate, this]
      rfl
  obtain ⟨m0, W1, hcp, r1, bb1, hm0, hmz⟩ := hcpE
  have R1 := hide r1
  have B1 := hide bb1
  have HZ := hide hmz
  clear hb1 hr1 c1 e1 e2 r1 bb1 hmz
  go_enter Tryd.func51, Tryd.ntmps51
  go_wp2_with fail
  refine (unhide hq).mono ?_
  rintro e w2 ⟨rfl, rfl⟩
  go_wp2_with fail
  clear hcp hmk
  go_loopw [8] (fun q w' => ∃ m : Nat, Hid (m = 0 → n = 0) ∧ m ≤ n ∧ q = .int .i64 m ∧ Hid (RowIs w' w2.heap.size (fillM n m p).toArray 3) ∧ Hid (Below w2.heap.size w2 w')) (fun q _ => n - (intOf q).toNat)
  case atStart => exact ⟨m0, HZ, hm0, rfl, R1, B1⟩
  case round =>
    obtain ⟨m, hm1, hmn, rfl, hr, hbw⟩ := hrel
    by_cases hlt : m < n
    · have hz0 := unhide hm1
      replace hm1 : 1 ≤ m := by
        rcases Nat.eq_zero_or_pos m with e | e
        · have := hz0 e; omega
        · exact e
      clear hz0
      have hcp := fun ty => copy_in ty (show RowIs wr.drew w2.heap.size (fillM n m p).toArray 3 from (unhide hr).keep (Below.refl _ _).drew) hlt hm1
      obtain ⟨k, hk⟩ : ∃ k, k = min m (n - m) := ⟨_, rfl⟩
      rw [← hk] at hcp
      have hk1 : 1 ≤ k ∧ m + k ≤ n := by omega
      have hN := hide (show RowIs (wr.drew.setRow w2.heap.size (fillM n (m + k) p).toArray) w2.heap.size (fillM n (m + k) p).toArray 3 from setRow_heap _ _ _ _ _ _ ((unhide hr).keep (Below.refl _ _).drew))
      have hB := hide (show Below w2.heap.size w2 (wr.drew.setRow w2.heap.size (fillM n (m + k) p).toArray) from bRow (unhide hbw).drew (Nat.le_refl _) _)
      obtain ⟨W3, hW3⟩ : ∃ W, W = wr.drew.setRow w2.heap.size (fillM n (m + k) p).toArray := ⟨_, rfl⟩
      rw [← hW3] at hN hB hcp
      clear hk hW3
      go_wp2_with fail
      go_region
      go_wp2_with fail
      exact ⟨⟨m + k, hide (fun h => by omega), by omega, by go_num, hN, hB⟩, by simp [intOf]; omega⟩
    · have em : m = n := by omega
      subst em
      go_wp2_with fail
      go_ret
      refine ⟨⟨w2.heap.size, rfl, Nat.le_refl _, ?_⟩, unhide hbw⟩
      have q := unhide hr
      have e : fillM m m p = List.replicate m (Value.int .i64 p) := by simp [fillM]
      rwa [e] at q
end Go.Proofs.YtdhpfhpegaekpaaDoor.V
