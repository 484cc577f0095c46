/- LSe, LSf, LSg, one behind the other. -/
import Derived.Test.YtppkgcedkdeccaaDoorJ18
import Derived.Test.YtppkgcedkdeccaaDoorJ8
import Derived.Test.YtppkgcedkdeccaaDoorJ6
import Derived.BigQuiet
import Derived.Test.YtppkgcedkdeccaaDoorJ17
import Derived.Laws.OwnMore
import Derived.Laws.AppendOwn
/- Sessions: the small functions of the specification. -/
namespace Go.Proofs.YtppkgcedkdeccaaDoor
set_option linter.unusedSimpArgs false
set_option linter.unusedVariables false
set_option maxRecDepth 20000
open Go.RowKit Go.Maps


def Said (e : Ending) (B : Bool) (w w' : World) : Prop := e = .returned (.bool B) ∧ Below w.heap.size w w'
def notS (b : Bool) (s : ByteArray) (g : Bool) : Bool := if b then !g else !(emp s)
set_option maxHeartbeats 1000000 in
theorem l15Not_any (b g : Bool) (s : ByteArray) (w : World) : Calls Tryd.prog 62 #[.bool b, .string s, .bool g] w fun e w' => e = .returned (.bool (notS b s g)) ∧ w = w' := by
  cases b <;> cases g
  all_goals
    cases hs : (s.toList == [])
    all_goals
      go_enter Tryd.func62, Tryd.ntmps62
      go_wp2_with fail
      go_ret
      exact ⟨by simp [notS, emp, hs], rfl⟩
theorem l15Not_b (b g : Bool) (s : ByteArray) (B : Bool) (h : notS b s g = B) (w : World) : Calls Tryd.prog 62 #[.bool b, .string s, .bool g] w fun e w' => e = .returned (.bool B) ∧ w = w' := h ▸ l15Not_any b g s w
theorem fit_kind {k t : Int} {u d i : ByteArray} (h : ¬ (1 ≤ k ∧ k ≤ 5)) : fitE k t u d i = false := by
  unfold fitE
  rw [if_neg (by omega), if_neg (by omega), if_neg (by omega)]
  simp
theorem fit_time {k t : Int} {u d i : ByteArray} (h : ¬ (0 ≤ t ∧ t ≤ 100000000000)) : fitE k t u d i = false := by
  unfold fitE
  rw [decide_eq_false h]
  simp
theorem fit_1 {t : Int} {u d i : ByteArray} (h : 0 ≤ t ∧ t ≤ 100000000000) : fitE 1 t u d i = (goodName u && goodName d && emp i) := by
  unfold fitE; rw [decide_eq_true h]; simp
theorem fit_5 {t : Int} {u d i : ByteArray} (h : 0 ≤ t ∧ t ≤ 100000000000) : fitE 5 t u d i = (goodName u && emp d && emp i) := by
  unfold fitE; rw [decide_eq_true h]; simp
theorem fit_m {k t : Int} {u d i : ByteArray} (h : 0 ≤ t ∧ t ≤ 100000000000) (hk : k = 2 ∨ k = 3 ∨ k = 4) : fitE k t u d i = (emp u && goodName d) := by
  unfold fitE; rw [decide_eq_true h, if_neg (by omega), if_pos hk]; simp
set_option maxHeartbeats 4000000 in
theorem sBad_1 (t : Int) (u d i : ByteArray) (w : World) (hu : u.size ≤ maxLen) (hd : d.size ≤ maxLen) (ht : 0 ≤ t ∧ t ≤ 100000000000) :
    Calls Tryd.prog 53 #[.agg #[.int .i64 1, .int .i64 t, .string u, .string d, .string i]] w fun e w' => Said e (!fitE 1 t u d i) w w' := by
  have qu := hide (sGoodName_any u hu)
  have qd := hide (sGoodName_any d hd)
  have m1 := hide (l15Not_any true (goodName u) u)
  have m2 := hide (l15Not_any true (goodName d) d)
  rw [fit_1 ht]
  obtain ⟨W2, hW2⟩ : ∃ W, W = w.alloc (.cells #[.int .i64 1, .int .i64 t, .string u, .string d, .string i] 34) := ⟨_, rfl⟩
  have b2 : Below w.heap.size w W2 := by rw [hW2]; exact bAl (Below.refl _ _) _
  have R2 := show RowIs W2 w.heap.size #[.int .i64 1, .int .i64 t, .string u, .string d, .string i] 34 by rw [hW2]; exact RowIs.new _ _ _
  have HB := hide b2
  have HW := hide hW2.symm
  have ne : Nonempty (Kept W2) := ⟨⟨W2, Below.refl _ _⟩⟩
  have e0 := R2.at (o := 0) (v := .int .i64 1) rfl
  have g0 := kept_cell R2.lt e0
  have e1 := R2.at (o := 1) (v := .int .i64 t) rfl
  have g1 := kept_cell R2.lt e1
  have e2 := R2.at (o := 2) (v := .string u) rfl
  have g2 := kept_cell R2.lt e2
  have e3 := R2.at (o := 3) (v := .string d) rfl
  have g3 := kept_cell R2.lt e3
  have e4 := R2.at (o := 4) (v := .string i) rfl
  have g4 := kept_cell R2.lt e4
  have ez := R2.lt
  obtain ⟨t0, t1⟩ := ht
  clear hW2 R2 b2
  have n1 : ¬ t < 0 := by omega
  have n2 : ¬ (100000000000 : Int) < t := by omega
  cases hgu : goodName u <;> cases hgd : goodName d <;> cases hii : (i.toList == [])
  all_goals
    rw [hgu] at qu m1
    rw [hgd] at qd m2
    try simp only [notS, emp, if_true, if_false, Bool.false_eq_true, ↓reduceIte, Bool.not_true, Bool.not_false] at m1 m2
    go_enter Tryd.func53, Tryd.ntmps53
    go_upto_region 1 with fail
    rw [unhide HW]
    go_upto_region 5 with fail
    refine wp_region_kept (by kernel_rfl) (by kernel_rfl) ?_
    repeat (first
      | go_big_quiet_step ((first | (go_at_call 63; first | (with_reducible exact kept_same (unhide qu _)) | (with_reducible exact kept_same (unhide qd _))) | (go_at_call 62; first | (with_reducible exact kept_same (unhide m1 _)) | (with_reducible exact kept_same (unhide m2 _)))))
      | quiet_step ((first | (go_at_call 63; first | (with_reducible exact kept_same (unhide qu _)) | (with_reducible exact kept_same (unhide qd _))) | (go_at_call 62; first | (with_reducible exact kept_same (unhide m1 _)) | (with_reducible exact kept_same (unhide m2 _))))))
    refine wpQuiet_nil ?_
    rintro _ ⟨q, rfl⟩
    go_wp2_with fail
    go_ret
    exact ⟨by simp [emp, hii], bTr (unhide HB) q.h⟩
set_option maxHeartbeats 4000000 in
theorem sBad_5 (t : Int) (u d i : ByteArray) (w : World) (hu : u.size ≤ maxLen) (hd : d.size ≤ maxLen) (ht : 0 ≤ t ∧ t ≤ 100000000000) :
    Calls Tryd.prog 53 #[.agg #[.int .i64 5, .int .i64 t, .string u, .string d, .string i]] w fun e w' => Said e (!fitE 5 t u d i) w w' := by
  have qu := hide (sGoodName_any u hu)
  have qd := hide (sGoodName_any d hd)
  have m1 := hide (l15Not_any true (goodName u) u)
  have m2 := hide (l15Not_any false (goodName d) d)
  rw [fit_5 ht]
  obtain ⟨W2, hW2⟩ : ∃ W, W = w.alloc (.cells #[.int .i64 5, .int .i64 t, .string u, .string d, .string i] 34) := ⟨_, rfl⟩
  have b2 : Below w.heap.size w W2 := by rw [hW2]; exact bAl (Below.refl _ _) _
  have R2 := show RowIs W2 w.heap.size #[.int .i64 5, .int .i64 t, .string u, .string d, .string i] 34 by rw [hW2]; exact RowIs.new _ _ _
  have HB := hide b2
  have HW := hide hW2.symm
  have ne : Nonempty (Kept W2) := ⟨⟨W2, Below.refl _ _⟩⟩
  have e0 := R2.at (o := 0) (v := .int .i64 5) rfl
  have g0 := kept_cell R2.lt e0
  have e1 := R2.at (o := 1) (v := .int .i64 t) rfl
  have g1 := kept_cell R2.lt e1
  have e2 := R2.at (o := 2) (v := .string u) rfl
  have g2 := kept_cell R2.lt e2
  have e3 := R2.at (o := 3) (v := .string d) rfl
  have g3 := kept_cell R2.lt e3
  have e4 := R2.at (o := 4) (v := .string i) rfl
  have g4 := kept_cell R2.lt e4
  have ez := R2.lt
  obtain ⟨t0, t1⟩ := ht
  clear hW2 R2 b2
  have n1 : ¬ t < 0 := by omega
  have n2 : ¬ (100000000000 : Int) < t := by omega
  cases hgu : goodName u <;> cases hgd : goodName d <;> cases hid : (d.toList == []) <;> cases hii : (i.toList == [])
  all_goals
    rw [hgu] at qu m1
    rw [hgd] at qd m2
    try simp only [notS, emp, hid, if_true, if_false, Bool.false_eq_true, ↓reduceIte, Bool.not_true, Bool.not_false] at m1 m2
    go_enter Tryd.func53, Tryd.ntmps53
    go_upto_region 1 with fail
    rw [unhide HW]
    go_upto_region 5 with fail
    refine wp_region_kept (by kernel_rfl) (by kernel_rfl) ?_
    repeat (first
      | go_big_quiet_step ((first | (go_at_call 63; first | (with_reducible exact kept_same (unhide qu _)) | (with_reducible exact kept_same (unhide qd _))) | (go_at_call 62; first | (with_reducible exact kept_same (unhide m1 _)) | (with_reducible exact kept_same (unhide m2 _)))))
      | quiet_step ((first | (go_at_call 63; first | (with_reducible exact kept_same (unhide qu _)) | (with_reducible exact kept_same (unhide qd _))) | (go_at_call 62; first | (with_reducible exact kept_same (unhide m1 _)) | (with_reducible exact kept_same (unhide m2 _))))))
    refine wpQuiet_nil ?_
    rintro _ ⟨q, rfl⟩
    go_wp2_with fail
    go_ret
    exact ⟨by simp [emp, hii, hid], bTr (unhide HB) q.h⟩
set_option maxHeartbeats 4000000 in
theorem sBad_m (k t : Int) (u d i : ByteArray) (w : World) (hu : u.size ≤ maxLen) (hd : d.size ≤ maxLen) (ht : 0 ≤ t ∧ t ≤ 100000000000) (hk : k = 2 ∨ k = 3 ∨ k = 4) :
    Calls Tryd.prog 53 #[.agg #[.int .i64 k, .int .i64 t, .string u, .string d, .string i]] w fun e w' => Said e (!fitE k t u d i) w w' := by
  have qu := hide (sGoodName_any u hu)
  have qd := hide (sGoodName_any d hd)
  have m1 := hide (l15Not_any false (goodName u) u)
  have m2 := hide (l15Not_any true (goodName d) d)
  rw [fit_m ht hk]
  obtain ⟨W2, hW2⟩ : ∃ W, W = w.alloc (.cells #[.int .i64 k, .int .i64 t, .string u, .string d, .string i] 34) := ⟨_, rfl⟩
  have b2 : Below w.heap.size w W2 := by rw [hW2]; exact bAl (Below.refl _ _) _
  have R2 := show RowIs W2 w.heap.size #[.int .i64 k, .int .i64 t, .string u, .string d, .string i] 34 by rw [hW2]; exact RowIs.new _ _ _
  have HB := hide b2
  have HW := hide hW2.symm
  have ne : Nonempty (Kept W2) := ⟨⟨W2, Below.refl _ _⟩⟩
  have e0 := R2.at (o := 0) (v := .int .i64 k) rfl
  have g0 := kept_cell R2.lt e0
  have e1 := R2.at (o := 1) (v := .int .i64 t) rfl
  have g1 := kept_cell R2.lt e1
  have e2 := R2.at (o := 2) (v := .string u) rfl
  have g2 := kept_cell R2.lt e2
  have e3 := R2.at (o := 3) (v := .string d) rfl
  have g3 := kept_cell R2.lt e3
  have e4 := R2.at (o := 4) (v := .string i) rfl
  have g4 := kept_cell R2.lt e4
  have ez := R2.lt
  obtain ⟨t0, t1⟩ := ht
  clear hW2 R2 b2
  have n1 : ¬ t < 0 := by omega
  have n2 : ¬ (100000000000 : Int) < t := by omega
  cases hgu : goodName u <;> cases hgd : goodName d <;> cases hiu : (u.toList == [])
  all_goals
    rw [hgu] at qu m1
    rw [hgd] at qd m2
    try simp only [notS, emp, hiu, if_true, if_false, Bool.false_eq_true, ↓reduceIte, Bool.not_true, Bool.not_false] at m1 m2
    rcases hk with rfl | rfl | rfl
  all_goals
    go_enter Tryd.func53, Tryd.ntmps53
    go_upto_region 1 with fail
    rw [unhide HW]
    go_upto_region 5 with fail
    refine wp_region_kept (by kernel_rfl) (by kernel_rfl) ?_
    repeat (first
      | go_big_quiet_step ((first | (go_at_call 63; first | (with_reducible exact kept_same (unhide qu _)) | (with_reducible exact kept_same (unhide qd _))) | (go_at_call 62; first | (with_reducible exact kept_same (unhide m1 _)) | (with_reducible exact kept_same (unhide m2 _)))))
      | quiet_step ((first | (go_at_call 63; first | (with_reducible exact kept_same (unhide qu _)) | (with_reducible exact kept_same (unhide qd _))) | (go_at_call 62; first | (with_reducible exact kept_same (unhide m1 _)) | (with_reducible exact kept_same (unhide m2 _))))))
    refine wpQuiet_nil ?_
    rintro _ ⟨q, rfl⟩
    go_wp2_with fail
    go_ret
    exact ⟨by simp [emp, hiu], bTr (unhide HB) q.h⟩
end Go.Proofs.YtppkgcedkdeccaaDoor
/- Sessions: l19Bad, l19Err, l19Told, over, id. -/
namespace Go.Proofs.YtppkgcedkdeccaaDoor
set_option linter.unusedSimpArgs false
set_option linter.unusedVariables false
set_option maxRecDepth 20000
open Go.RowKit Go.Maps


set_option maxHeartbeats 4000000 in
theorem sBad_out (k t : Int) (u d i : ByteArray) (w : World) (h : ¬ (1 ≤ k ∧ k ≤ 5) ∨ ¬ (0 ≤ t ∧ t ≤ 100000000000)) :
    Calls Tryd.prog 53 #[.agg #[.int .i64 k, .int .i64 t, .string u, .string d, .string i]] w fun e w' => Said e true w w' := by
  obtain ⟨W2, hW2⟩ : ∃ W, W = w.alloc (.cells #[.int .i64 k, .int .i64 t, .string u, .string d, .string i] 34) := ⟨_, rfl⟩
  have b2 : Below w.heap.size w W2 := by rw [hW2]; exact bAl (Below.refl _ _) _
  have R2 := show RowIs W2 w.heap.size #[.int .i64 k, .int .i64 t, .string u, .string d, .string i] 34 by rw [hW2]; exact RowIs.new _ _ _
  have HB := hide b2
  have HW := hide hW2.symm
  have e0 := R2.at (o := 0) (v := .int .i64 k) rfl
  have e1 := R2.at (o := 1) (v := .int .i64 t) rfl
  have e2 := R2.at (o := 2) (v := .string u) rfl
  have e3 := R2.at (o := 3) (v := .string d) rfl
  have e4 := R2.at (o := 4) (v := .string i) rfl
  have ez := R2.lt
  clear hW2 R2 b2
  by_cases h1 : k < 1
  · go_enter Tryd.func53, Tryd.ntmps53
    go_upto_region 1 with fail
    rw [unhide HW]
    go_wp2_with fail
    go_ret
    exact ⟨rfl, unhide HB⟩
  by_cases h2 : 5 < k
  · clear h
    go_enter Tryd.func53, Tryd.ntmps53
    go_upto_region 1 with fail
    rw [unhide HW]
    go_wp2_with fail
    go_ret
    exact ⟨rfl, unhide HB⟩
  by_cases h3 : t < 0
  · clear h
    go_enter Tryd.func53, Tryd.ntmps53
    go_upto_region 1 with fail
    rw [unhide HW]
    go_wp2_with fail
    go_ret
    exact ⟨rfl, unhide HB⟩
  by_cases h4 : 100000000000 < t
  · clear h
    go_enter Tryd.func53, Tryd.ntmps53
    go_upto_region 1 with fail
    rw [unhide HW]
    go_wp2_with fail
    go_ret
    exact ⟨rfl, unhide HB⟩
  · exact (h.elim (fun q => q ⟨by omega, by omega⟩) (fun q => q ⟨by omega, by omega⟩)).elim
theorem sBad_any (k t : Int) (u d i : ByteArray) (w : World) (hu : u.size ≤ maxLen) (hd : d.size ≤ maxLen) :
    Calls Tryd.prog 53 #[.agg #[.int .i64 k, .int .i64 t, .string u, .string d, .string i]] w fun e w' => Said e (!fitE k t u d i) w w' := by
  by_cases h1 : 1 ≤ k ∧ k ≤ 5
  rotate_left
  · rw [fit_kind h1]; exact sBad_out k t u d i w (.inl h1)
  by_cases h2 : 0 ≤ t ∧ t ≤ 100000000000
  rotate_left
  · rw [fit_time h2]; exact sBad_out k t u d i w (.inr h2)
  have hk : k = 1 ∨ (k = 2 ∨ k = 3 ∨ k = 4) ∨ k = 5 := by omega
  rcases hk with rfl | hk | rfl
  · exact sBad_1 t u d i w hu hd h2
  · exact sBad_m k t u d i w hu hd h2 hk
  · exact sBad_5 t u d i w hu hd h2
def encR (r : SessReplyT) : Array Value := #[.int .i64 r.f0, .string r.f1, .string r.f2, .int .i64 r.f3]
theorem ret_reply {fn : Func} {p : Tmp} (h : fn.results = #[.cell p 31]) (tmps : Array Value) (w : World) (g : Nat) (C : Array Value) (hC : C.size = 4) (hp : tmps.getD p undef = .pointer (some ⟨g, 0, none⟩)) (hr : RowIs w g C 31) : (results fn tmps).run Tryd.prog w = .ok (.agg C) w :=
  results_cell_row h tmps w g _ C _ _ hp hr Tryd.underlying31 rfl (by rw [hC]; kernel_rfl)
theorem wp_world {P : Program} {c : Code} {Q : Exit → Act → World → Prop} {a : Act} {W W' : World} (h : W = W') (k : Code.wp P c Q a W') : Code.wp P c Q a W := h ▸ k
theorem sErr_any (n : Int) (w : World) : Calls Tryd.prog 54 #[.int .i64 n] w fun e w' => e = .returned (.agg (encR (errR n))) ∧ Below w.heap.size w w' := by
  go_enter Tryd.func54, Tryd.ntmps54
  go_wp2_with fail
  ((try simp only [Exit.inBlock, Exit.then]); exact bodyPost_ret (v := .agg (encR (errR n))) (by simp [results, Tryd.results54, go_sem, encR, errR]) rfl ⟨rfl, by first | exact bAl (Below.refl _ _) _ | (refine Below.setCell ?_ ?_ _ <;> simp)⟩)
/-- A slice of texts in memory. -/
def SlT (w : World) (a : Option Addr) (len : Nat) (l : List ByteArray) : Prop := len = l.length ∧ (l = [] ∨ ∃ b, a = some ⟨b, 0, none⟩ ∧ b < w.heap.size ∧ ∀ i (h : i < l.length), w.cell? ⟨b, i, none⟩ = some (.string l[i]))
def xV (a : Option Addr) (n c : Nat) (s : SxT) : Array Value := #[.slice a n c, .string s.user, .string s.device, .int .i64 s.level, .int .i64 s.login, .int .i64 s.last, .bool s.dead]
set_option maxHeartbeats 4000000 in
theorem sTold_any (b n c : Nat) (s : SxT) (w : World) (hn : n = s.ids.length) (h0 : s.ids ≠ []) (hm : n ≤ 1000000) (hb : b < w.heap.size) (hc : w.cell? ⟨b, n - 1, none⟩ = some (.string (lastI s.ids))) :
    Calls Tryd.prog 33 #[.agg (xV (some ⟨b, 0, none⟩) n c s)] w fun e w' => e = .returned (.agg (encR (toldR s))) ∧ Below w.heap.size w w' := by
  have hpos : 0 < n := by rw [hn]; exact List.length_pos_iff.2 h0
  obtain ⟨m, rfl⟩ : ∃ m, n = m + 1 := ⟨n - 1, by omega⟩
  rw [Nat.add_sub_cancel] at hc
  have e1 : IntKind.i64.wrap (((m + 1 : Nat) : Int) - 1) = (m : Int) := by rw [IntKind.wrap_i64]; omega
  have eT := hide (show encR (toldR s) = #[.int .i64 0, .string (lastI s.ids), .string s.user, .int .i64 s.level] from rfl)
  generalize lastI s.ids = L at *
  generalize encR (toldR s) = T at *
  unfold xV
  generalize s.user = U at *
  generalize s.device = D at *
  generalize s.level = V at *
  generalize s.login = G at *
  generalize s.last = A at *
  generalize s.dead = E at *
  obtain ⟨W1, hW1⟩ : ∃ W, W = w.alloc (.cells #[.slice (some ⟨b, 0, none⟩) (m + 1) c, .string U, .string D, .int .i64 V, .int .i64 G, .int .i64 A, .bool E] 79) := ⟨_, rfl⟩
  obtain ⟨W2, hW2⟩ : ∃ W, W = W1.alloc (.cells #[.int .i64 0, .string ⟨#[]⟩, .string ⟨#[]⟩, .int .i64 0] 31) := ⟨_, rfl⟩
  have z1 : W1.heap.size = w.heap.size + 1 := by rw [hW1]; simp
  have b1 : Below w.heap.size w W1 := by rw [hW1]; exact bAl (Below.refl _ _) _
  have b2 : Below W1.heap.size W1 W2 := by rw [hW2]; exact bAl (Below.refl _ _) _
  have R1 := show RowIs W1 w.heap.size #[.slice (some ⟨b, 0, none⟩) (m + 1) c, .string U, .string D, .int .i64 V, .int .i64 G, .int .i64 A, .bool E] 79 by rw [hW1]; exact RowIs.new _ _ _
  have R2 := show RowIs W2 (w.heap.size + 1) #[.int .i64 0, .string ⟨#[]⟩, .string ⟨#[]⟩, .int .i64 0] 31 by rw [hW2, ← z1]; exact RowIs.new _ _ _
  have R1' := R1.keep b2
  have hb12 := bTr b1 b2
  have q0 := R1'.at (o := 0) (v := .slice (some ⟨b, 0, none⟩) (m + 1) c) rfl
  have q1 := R1'.at (o := 1) (v := .string U) rfl
  have q3 := R1'.at (o := 3) (v := .int .i64 V) rfl
  have q9 := cellB hb12 hb hc
  have qz := R1'.lt
  have R2z := R2.lt
  have HB := hide hb12
  have HR := hide R2
  have r0 := R2.at (o := 0) (v := .int .i64 0) rfl
  have r1 := R2.at (o := 1) (v := .string ⟨#[]⟩) rfl
  have r2 := R2.at (o := 2) (v := .string ⟨#[]⟩) rfl
  have r3 := R2.at (o := 3) (v := .int .i64 0) rfl
  have f0 := R2.froz 0
  have f1 := R2.froz 1
  have f2 := R2.froz 2
  have f3 := R2.froz 3
  have HW2 := hide hW2.symm
  rw [hW1] at HW2
  have hbz := Nat.lt_of_lt_of_le hb hb12.size
  clear hW1 hW2 R1 R2 R1' hb12 b1 b2 hb hc z1 hn h0
  go_enter Tryd.func33, Tryd.ntmps33
  go_upto_region 1 with fail
  refine wp_world (unhide HW2) ?_
  go_region
  all_goals
    go_wp2_with fail
    try simp only [Exit.inBlock, Exit.then]
    exact bodyPost_ret (ret_reply rfl _ _ (w.heap.size + 1) #[.int .i64 0, .string L, .string U, .int .i64 V] rfl rfl (((((unhide HR).set 0 _).set 1 _).set 2 _).set 3 _)) rfl ⟨by rw [unhide eT], (((((unhide HB).setCell (Nat.le_succ _) _).setCell (Nat.le_succ _) _).setCell (Nat.le_succ _) _).setCell (Nat.le_succ _) _).drew⟩
/-- The state's box. -/
def cfV (ka : Option Addr) (kl kc : Nat) (x : SsT) (v : Value) : Array Value := #[.slice ka kl kc, .int .i64 x.idle, .int .i64 x.most, .int .i64 x.now, .int .i64 (x.given : Int), v]
set_option maxHeartbeats 4000000 in
theorem sOver_any (b n c : Nat) (a ka : Option Addr) (kl kc : Nat) (x : SsT) (s : SxT) (v : Value) (t : Int) (w : World) (hr : RowIs w b (cfV ka kl kc x v) 76) (h1 : 0 ≤ s.login ∧ s.login ≤ 100000000000) (h2 : 0 ≤ s.last ∧ s.last ≤ 100000000000) (h3 : 0 ≤ x.idle ∧ x.idle ≤ 1000000) (h4 : 0 ≤ x.most ∧ x.most ≤ 1000000) :
    Calls Tryd.prog 32 #[.pointer (some ⟨b, 0, none⟩), .agg (xV a n c s), .int .i64 t] w fun e w' => Said e (overS x s t) w w' := by
  obtain ⟨W2, hW2⟩ : ∃ W, W = w.alloc (.cells (xV a n c s) 79) := ⟨_, rfl⟩
  have b2 : Below w.heap.size w W2 := by rw [hW2]; exact bAl (Below.refl _ _) _
  have R2 := show RowIs W2 w.heap.size (xV a n c s) 79 by rw [hW2]; exact RowIs.new _ _ _
  have hr2 := hr.keep b2
  have ne : Nonempty (Kept W2) := ⟨⟨W2, Below.refl _ _⟩⟩
  have g4 := kept_cell R2.lt (R2.at (o := 4) (v := .int .i64 s.login) rfl)
  have g5 := kept_cell R2.lt (R2.at (o := 5) (v := .int .i64 s.last) rfl)
  have c1 := kept_cell hr2.lt (hr2.at (o := 1) (v := .int .i64 x.idle) rfl)
  have c2 := kept_cell hr2.lt (hr2.at (o := 2) (v := .int .i64 x.most) rfl)
  have HB := hide b2
  have w1 : IntKind.i64.wrap (s.last + x.idle) = s.last + x.idle := by rw [IntKind.wrap_i64]; omega
  have w2 : IntKind.i64.wrap (s.login + x.most) = s.login + x.most := by rw [IntKind.wrap_i64]; omega
  have eO := hide (show overS x s t = (decide (s.last + x.idle < t) || decide (s.login + x.most < t)) from rfl)
  have HW2 := hide hW2.symm
  clear hW2 b2 R2 hr2 hr
  generalize overS x s t = O at *
  unfold xV at *
  generalize s.login = LG at *
  generalize s.last = LA at *
  generalize x.idle = ID at *
  generalize x.most = MO at *
  by_cases p1 : LA + ID < t
  all_goals
    by_cases p2 : LG + MO < t
    all_goals
      go_enter Tryd.func32, Tryd.ntmps32
      go_upto_region 1 with fail
      refine wp_world (unhide HW2) ?_
      refine wp_region_kept (by kernel_rfl) (by kernel_rfl) ?_
      repeat (first
        | go_big_quiet_step ((fail))
        | quiet_step ((fail)))
      refine wpQuiet_nil ?_
      rintro _ ⟨q, rfl⟩
      go_wp2_with fail
      go_ret
      exact ⟨by rw [unhide eO]; simp [p1, p2], bTr (unhide HB) q.h⟩
end Go.Proofs.YtppkgcedkdeccaaDoor
/- Sessions: id; the specification's state in memory. -/
namespace Go.Proofs.YtppkgcedkdeccaaDoor
set_option linter.unusedSimpArgs false
set_option linter.unusedVariables false
set_option maxRecDepth 20000
open Go.RowKit Go.Maps


set_option maxHeartbeats 4000000 in
theorem sId_any (b : Nat) (ka : Option Addr) (kl kc : Nat) (x : SsT) (v : Value) (w : World) (hr : RowIs w b (cfV ka kl kc x v) 76) (hk : D.SlB w b ka kl x.key) (hl : kl ≤ 1048576) (hg : x.given ≤ 1000) :
    Calls Tryd.prog 55 #[.pointer (some ⟨b, 0, none⟩)] w fun e w' => e = .returned (.string (idOf x.key (x.given + 1))) ∧ Below w.heap.size (w.setCell ⟨b, 4, none⟩ (.int .i64 ((x.given + 1 : Nat) : Int))) w' := by
  obtain ⟨W2, hW2⟩ : ∃ W, W = w.setCell ⟨b, 4, none⟩ (.int .i64 ((x.given + 1 : Nat) : Int)) := ⟨_, rfl⟩
  have c4 := hr.at (o := 4) (v := .int .i64 (x.given : Int)) rfl
  have f4 := hr.froz 4
  have z := hr.lt
  have R2 : RowIs W2 b ((cfV ka kl kc x v).setIfInBounds 4 (.int .i64 ((x.given + 1 : Nat) : Int))) 76 := by rw [hW2]; exact hr.set 4 _
  have K2 : D.SlB W2 b ka kl x.key := by rw [hW2]; exact hk.keepB ((Below.refl b w).setCell (Nat.le_refl _) _)
  have z2 : W2.heap.size = w.heap.size := by rw [hW2]; simp [World.setCell]
  have ne : Nonempty (Kept W2) := ⟨⟨W2, Below.refl _ _⟩⟩
  have g0 := kept_cell R2.lt (R2.at (o := 0) (v := .slice ka kl kc) rfl)
  have g4 := kept_cell R2.lt (R2.at (o := 4) (v := .int .i64 ((x.given + 1 : Nat) : Int)) rfl)
  have e1 : IntKind.i64.wrap ((x.given : Int) + 1) = ((x.given + 1 : Nat) : Int) := by rw [IntKind.wrap_i64]; omega
  have qc := hide (fun (q : Kept W2) => D.l18Handle_any ka kl kc x.key sessB ((x.given + 1 : Nat) : Int) q.w hl (by decide) ((K2.keepB (q.h.mono (by have := R2.lt; omega))).mono (by have := R2.lt; have := q.h.size; omega)) (by omega) (by omega))
  have HW2 := hide hW2.symm
  have Z2 := hide z2
  rw [← hW2, ← z2]
  unfold sessB at qc
  clear hW2 R2 K2 hr hk z2
  have eI := hide (show idOf x.key (x.given + 1) = D.hd x.key ⟨#[115, 101, 115, 115]⟩ ((x.given + 1 : Nat) : Int) from rfl)
  generalize idOf x.key (x.given + 1) = I at *
  generalize D.hd x.key ⟨#[115, 101, 115, 115]⟩ ((x.given + 1 : Nat) : Int) = I2 at *
  obtain rfl := unhide eI
  generalize ((x.given + 1 : Nat) : Int) = G at *
  go_enter Tryd.func55, Tryd.ntmps55
  go_upto_region 2 with fail
  refine wp_world (unhide HW2) ?_
  refine wp_region_kept (by kernel_rfl) (by kernel_rfl) ?_
  repeat (first
    | go_big_quiet_step ((go_at_call 64; with_reducible exact kept_call (unhide qc _)))
    | quiet_step ((go_at_call 64; with_reducible exact kept_call (unhide qc _))))
  refine wpQuiet_nil ?_
  rintro _ ⟨q, rfl⟩
  go_wp2_with fail
  go_ret
  exact ⟨rfl, q.h⟩
end Go.Proofs.YtppkgcedkdeccaaDoor
