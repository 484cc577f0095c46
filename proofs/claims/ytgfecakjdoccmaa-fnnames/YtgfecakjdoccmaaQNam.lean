/- impl.NameText, spec.NameText. -/
import Derived.Test.YtgfecakjdoccmaaQSla
import Derived.Deep.RegionHeld3
import Derived.Deep.AppendLies
import Derived.Deep.DrawnRows
import Derived.Test.YtgfecakjdoccmaaQDir
namespace Go.Proofs.Ytgfecakjdoccmaa
open Go.RowKit

def ptext (p : PartT) : List UInt8 := p.a.data.toList ++ ([61] ++ esc [44, 92] p.t.data.toList)
def nameL' (l : List PartT) : List UInt8 := Lib.join (l.map ptext) [44]
def nameT (l : List PartT) : ByteArray := if dirB l then ⟨(nameL' l).toArray⟩ else ⟨#[]⟩
theorem info_str : (Try.prog.info? 9).map (fun i => (i.zero, i.size, i.bytes)) = some (some (.string ByteArray.empty), 1, 16) := by kernel_rfl

theorem esc_len (so s : List UInt8) : (esc so s).length ≤ (so.length + 1) * s.length := by
  induction s with
  | nil => simp [esc]
  | cons c s ih =>
    have : esc so (c :: s) = escs so c ++ [c] ++ esc so s := by simp [esc]
    have h2 := escs_len so c
    rw [this]
    simp only [List.length_append, List.length_cons, List.length_nil, Nat.mul_add, Nat.mul_one]
    omega
theorem partB_len {p : PartT} (h : partB p = true) : p.a.size ≤ 30 ∧ 1 ≤ p.t.size ∧ p.t.size ≤ 60 := by
  unfold partB goodName nameL at h
  simp at h
  obtain ⟨⟨⟨⟨_, h1⟩, _⟩, _⟩, h2, h3, _⟩ := h
  exact ⟨h1, by omega, by omega⟩
theorem ptext_len {p : PartT} (h : partB p = true) : (ptext p).length ≤ 211 := by
  obtain ⟨h1, _, h2⟩ := partB_len h
  have := esc_len [44, 92] p.t.data.toList
  unfold ptext
  simp only [List.length_append, List.length_cons, List.length_nil]
  have e1 : p.a.data.toList.length = p.a.size := by simp
  have e2 : p.t.data.toList.length = p.t.size := by simp
  rw [e2] at this
  simp only [List.length_cons, List.length_nil] at this
  omega

theorem own_keepT {w w' : World} {base n e size : Nat} {v : Value} {xs : List Value} (h : w.ownsRow base e size v n xs) (hb : Below w.heap.size w w') : w'.ownsRow base e size v n xs := by
  refine ⟨h.1, h.2.imp_right ?_⟩
  rintro ⟨g, cap, cur, e', h1, hh, r⟩
  exact ⟨g, cap, cur, e', h1, RowIs.keep (T := e) hh hb, r⟩
theorem map_snoc (l : List PartT) (k : Nat) (h : k < l.length) (f : PartT → List UInt8) : (l.take (k + 1)).map f = (l.take k).map f ++ [f l[k]] := by
  rw [List.take_succ_eq_append_getElem h, List.map_append]; rfl
def strsV (l : List (List UInt8)) : List Value := l.map fun x => .string ⟨x.toArray⟩
theorem part_bytes (A : PartT) : (A.a ++ ⟨#[61]⟩ ++ ⟨(esc [44, 92] A.t.data.toList).toArray⟩ : ByteArray) = ⟨(ptext A).toArray⟩ := by
  apply ByteArray.ext
  apply Array.toList_inj.1
  simp [ptext, ByteArray.data_append]
theorem esc_size (A : PartT) (h : partB A = true) : (⟨(esc [44, 92] A.t.data.toList).toArray⟩ : ByteArray).size ≤ 180 := by
  have h2 := (partB_len h).2.2
  have := esc_len [44, 92] A.t.data.toList
  have e2 : A.t.data.toList.length = A.t.size := by simp
  rw [e2] at this
  simp only [List.length_cons, List.length_nil] at this
  show (esc [44, 92] A.t.data.toList).toArray.size ≤ 180
  rw [List.size_toArray]
  omega
theorem keepS {w w' : World} {B : Nat} {v : Value} {x y : Value} {o : Obj} (hn : ∀ g, v.ownBlock = some g → g ≠ B) (hg : (w.alloc o).grownBy w' v.ownBlock) (h : w.cell? ⟨B, 0, none⟩ = some x ∧ w.cell? ⟨B, 1, none⟩ = some y) :
    w'.cell? ⟨B, 0, none⟩ = some x ∧ w'.cell? ⟨B, 1, none⟩ = some y := by
  have z := World.block_lt_of_cell? w _ h.1
  have e0 : (w.alloc o).cell? ⟨B, 0, none⟩ = some x := cellB (bAl (Below.refl _ _) o) z h.1
  have e1 : (w.alloc o).cell? ⟨B, 1, none⟩ = some y := cellB (bAl (Below.refl _ _) o) z h.2
  have ne : v.ownBlock ≠ some B := fun e => hn B e rfl
  have z' : B < (w.alloc o).heap.size := by simp; exact Nat.lt_succ_of_lt z
  exact ⟨by rw [hg.cell_far ⟨B, 0, none⟩ z' (Ne.symm ne)]; exact e0, by rw [hg.cell_far ⟨B, 1, none⟩ z' (Ne.symm ne)]; exact e1⟩
theorem cut_nodup : ([44, 92] : List UInt8).Nodup := by decide

theorem inter_len : ∀ L : List (List UInt8), (∀ x ∈ L, x.length ≤ 211) → (Lib.join L [44]).length ≤ 212 * L.length
  | [], _ => by simp [Lib.join, List.intercalate]
  | [a], h => by
    have := h a (by simp)
    simp [Lib.join, List.intercalate]
    omega
  | a :: b :: L, h => by
    have ih := inter_len (b :: L) (fun x hx => h x (List.mem_cons_of_mem _ hx))
    have := h a (by simp)
    simp [Lib.join, List.intercalate] at ih ⊢
    omega
theorem join_own {w : World} {base : Nat} {v : Value} {L : List (List UInt8)} (h : w.ownsRow base 9 1 v L.length (strsV L)) (hL : L.length ≤ 8) (hx : ∀ x ∈ L, x.length ≤ 211) :
    Calls Try.prog 35 #[v, .string ⟨#[44]⟩] w fun e w' => e = .returned (.string ⟨(Lib.join L [44]).toArray⟩) ∧ Below w.heap.size w w' := by
  rcases h.2 with ⟨rfl, e⟩ | ⟨g, cap, cur, rfl, _, hh, hc, _, hsz, htk⟩
  · have : L = [] := List.length_eq_zero_iff.1 e
    subst this
    refine (Try.strings_Join_none none 0 ⟨#[44]⟩ w).mono ?_
    rintro e w' ⟨rfl, rfl⟩
    exact ⟨rfl, Below.refl _ _⟩
  · have hr : RowIs w g cur 9 := hh
    have hlen := inter_len L hx
    have := Try.strings_Join g 0 cap (L.map fun x => ⟨x.toArray⟩) ⟨#[44]⟩ w (fun j x hj => by
        have f0 : (strsV L)[j]? = some (.string x) := by
          unfold strsV
          rw [List.getElem?_map] at hj ⊢
          obtain ⟨y, h1, h2⟩ := Option.map_eq_some_iff.1 hj
          rw [h1]; simp [← h2]
        rw [← htk, List.getElem?_take] at f0
        rw [Nat.zero_add, hr.cell, ← Array.getElem?_toList]
        split at f0
        · exact f0
        · cases f0) hr.lt (by simp; omega) (by simpa using hc) (by
        have e : (L.map fun x => (⟨x.toArray⟩ : ByteArray)).map (·.data.toList) = L := by rw [List.map_map]; exact List.map_id'' (fun x => by simp) L
        rw [e]
        show (Lib.join L [44]).length ≤ _
        omega)
    have e : (L.map fun x => (⟨x.toArray⟩ : ByteArray)).map (·.data.toList) = L := by rw [List.map_map]; exact List.map_id'' (fun x => by simp) L
    rw [e, List.length_map] at this
    exact this

set_option maxRecDepth 20000 in
set_option maxHeartbeats 3200000 in
theorem iNameText_any (a : Option Addr) (len cap : Nat) (l : List PartT) (w : World) (hl : len ≤ maxLen) (hs : SlP w a len l) (hok : ∀ q ∈ l, PartT.Ok q) :
    Calls Try.prog 9 #[.slice a len cap] w fun e w' => e = .returned (.string (nameT l)) ∧ Below w.heap.size w w' := by
  have q1 := hide (iGoodDirName_any a len cap l w hl hs hok)
  have HS := hide hs
  obtain ⟨i0, hi, hz0, hz1, hz2⟩ := info_parts info_str
  unfold nameT
  cases hd : dirB l
  · rw [hd] at q1
    rw [if_neg (by simp)]
    clear hd
    go_enter Try.func9, Try.ntmps9
    go_wp2_with fail
    refine (unhide q1).mono ?_
    rintro e w1 ⟨rfl, hb⟩
    go_wp2_with fail
    go_ret
    exact ⟨rfl, hb⟩
  rw [hd] at q1
  rw [if_pos rfl]
  have h8 : len ≤ 8 := by rw [hs.1]; unfold dirB at hd; simp at hd; exact hd.1
  have hg : Hid (∀ q ∈ l, partB q = true) := hide (by unfold dirB at hd; simp at hd; exact hd.2)
  clear hd hs hok hl
  go_enter Try.func9, Try.ntmps9
  go_wp2_with fail
  refine (unhide q1).mono ?_
  rintro e w1 ⟨rfl, hb⟩
  have B1 := hide hb
  clear hb q1
  go_wp2_with fail
  go_loopw [3, 11] (fun v i w' => ∃ (k : Nat), k ≤ len ∧ i = .int .i64 k ∧ Hid (w'.ownsRow w1.heap.size 9 1 v k (strsV ((l.take k).map ptext))) ∧ Hid (Below w1.heap.size w1 w')) (fun _ i _ => len - (intOf i).toNat)
  case atStart => exact ⟨0, Nat.zero_le _, rfl, hide (World.ownsRow_nil _ _ _ _), hide (Below.refl _ _)⟩
  case round =>
    obtain ⟨k, hk, rfl, hown, hb⟩ := hrel
    by_cases hlt : k < len
    · obtain ⟨b, off, rfl, hrow⟩ := ((unhide HS).keep (bTr (unhide B1) (unhide hb))).at hlt
      have hk' : k < l.length := by rw [← (unhide HS).1]; exact hlt
      have c0 := hrow.c0 k hk'
      have c1 := hrow.c1 k hk'
      have eT := hide (map_snoc l k hk' ptext)
      have hA := hide (unhide hg _ (List.getElem_mem hk'))
      clear hrow
      generalize l[k] = A at c0 c1 eT hA
      obtain ⟨W0, hW0⟩ : ∃ W, W = wr.alloc (.cells #[.string A.a, .string A.t] 55) := ⟨_, rfl⟩
      have HW0 := hide hW0
      obtain ⟨B, hB⟩ : ∃ B, B = wr.heap.size := ⟨_, rfl⟩
      have HB := hide hB
      have RA : RowIs W0 B #[.string A.a, .string A.t] 55 := by rw [hW0, hB]; exact RowIs.new _ _ _
      have cA := RA.at (o := 0) (v := .string A.a) rfl
      have cT := RA.at (o := 1) (v := .string A.t) rfl
      have HR := hide RA
      have HO := hide (show W0.ownsRow w1.heap.size 9 1 _ k (strsV ((l.take k).map ptext)) by rw [hW0]; exact (unhide hown).alloc _)
      have BW := hide (show Below w1.heap.size w1 W0 by rw [hW0]; exact bAl (unhide hb) _)
      have nB := hide (show ∀ g, u3.ownBlock = some g → g ≠ B from fun g hg => by have := ((unhide hown).lt g hg).2; omega)
      clear hW0 hB RA
      go_wp2_with fail
      rw [← unhide HW0, ← unhide HB]
      have hsz : A.t.size ≤ 1000 := by have := (partB_len (unhide hA)).2.2; omega
      have hsl := hide (fun w => slashed_any A.t ⟨#[44, 92]⟩ hsz cut_nodup w)
      have hp := hide (part_bytes A)
      have hsa : A.a.size ≤ 30 := (partB_len (unhide hA)).1
      have hsx : (⟨(esc [44, 92] A.t.data.toList).toArray⟩ : ByteArray).size ≤ 180 := esc_size A (unhide hA)
      have hsl' : Hid (∀ w, Calls Try.prog 34 #[.string A.t, .string ⟨#[44, 92]⟩] w fun e w' => e = .returned (.string ⟨(esc [44, 92] A.t.data.toList).toArray⟩) ∧ Below w.heap.size w w') := hsl
      clear hsl
      generalize (⟨(esc [44, 92] A.t.data.toList).toArray⟩ : ByteArray) = X at hsl' hp hsx
      have hq0 : (⟨#[61]⟩ : ByteArray).size = 1 := rfl
      have hq1 : ¬ 9223372036854775807 < A.a.size + (⟨#[61]⟩ : ByteArray).size := by rw [hq0]; omega
      have hq2 : ¬ 9223372036854775807 < (A.a ++ (⟨#[61]⟩ : ByteArray)).size + X.size := by rw [ByteArray.size_append, hq0]; omega
      have hq3 : A.a.size + (⟨#[61]⟩ : ByteArray).size ≤ 9223372036854775807 := by rw [hq0]; omega
      have hq4 : (A.a ++ (⟨#[61]⟩ : ByteArray)).size + X.size ≤ 9223372036854775807 := by rw [ByteArray.size_append, hq0]; omega
      have hq5 : ¬ 9223372036854775806 < A.a.size := by omega
      have hq6 : A.a.size ≤ 9223372036854775806 := by omega
      have hq7 : ¬ 9223372036854775807 < A.a.size + 1 + X.size := by omega
      have hq8 : A.a.size + 1 + X.size ≤ 9223372036854775807 := by omega
      have hq9 : ¬ 9223372036854775807 < A.a.size + 1 := by omega
      have hqa : A.a.size + 1 ≤ 9223372036854775807 := by omega
      clear hq0
      have zW := hide (Nat.le_refl W0.heap.size)
      go_region_held3 (fun w' => w'.cell? ⟨B, 0, none⟩ = some (.string A.a) ∧ w'.cell? ⟨B, 1, none⟩ = some (.string A.t))
        (first
          | go_keep
          | exact ⟨(unhide S2).1, (unhide S2).2⟩
          | exact unhide S3)
        (first
          | (go_at_call 34; refine (unhide hsl' _).mono ?_; rintro e w2 ⟨rfl, hb2⟩; have S2 := hide (show w2.cell? ⟨B, 0, none⟩ = some (.string A.a) ∧ w2.cell? ⟨B, 1, none⟩ = some (.string A.t) from ⟨((unhide HR).keep (undrew hb2)).at rfl, ((unhide HR).keep (undrew hb2)).at rfl⟩))
          | (refine step_append_lies _ (by rfl) _ _ _ (by rfl) w1.heap.size 9 i0 _ 1 16 Try.underlying53 hi hz0 hz1 hz2 rfl (by omega) u3 k _ (by rfl) ((own_keepT (unhide HO) (undrew hb2)).alloc _) ⟨w2.heap.size, 0, none⟩ 1 1 [.string _] (by rfl) (by rfl) (World.news_of_block (cs := #[.string _]) (t := 9) (fr := (0, 0)) (heap_alloc_new w2 _)) (by simp [Value.oneCell']) (by omega) (by unfold maxLen; omega) (by omega) (by have := (unhide BW).size; have := hb2.size; simp at *; omega) (w2.heap.size + 1) (by simp) ?_; intro g cp w3 hown1 hgrow hat hlt3; have S3 := hide (keepS (unhide nB) hgrow (unhide S2))))
      have BW3 := hide ((bAl (bTr (unhide BW) (undrew hb2)) _).grown hgrow (by have := (unhide BW).size; have := hb2.size; simp at *; omega) (fun j hj => ((unhide hown).lt j hj).1))
      have own3 := hide hown1
      rw [unhide hp] at own3
      clear hown1 hgrow hat S2 S3 hb2 cA cT HR
      go_wp2_with fail
      refine ⟨⟨k + 1, by omega, by go_num, hide ?_, BW3⟩, by simp [intOf]; omega⟩
      rw [unhide eT]
      unfold strsV
      rw [List.map_append]
      exact unhide own3
    · have e : k = l.length := by rw [← (unhide HS).1]; omega
      have ho := unhide hown
      rw [e, List.take_length] at ho
      have hj := hide (join_own (L := l.map ptext) (by rw [List.length_map]; exact ho) (by rw [List.length_map, ← (unhide HS).1]; exact h8) (fun x hx => by
        obtain ⟨q, hq, rfl⟩ := List.mem_map.1 hx
        exact ptext_len (unhide hg q hq)))
      clear ho
      go_wp2_with fail
      refine (unhide hj).mono ?_
      rintro e w2 ⟨rfl, hb2⟩
      go_wp2_with fail
      go_ret
      exact ⟨rfl, bTr (bTr (unhide B1) (unhide hb)) hb2⟩

theorem join_snoc : ∀ (L : List (List UInt8)) (x : List UInt8), L ≠ [] → Lib.join (L ++ [x]) [44] = Lib.join L [44] ++ ([44] ++ x)
  | [], _, h => absurd rfl h
  | [a], x, _ => by simp [Lib.join, List.intercalate]
  | a :: b :: L, x, _ => by
    have ih := join_snoc (b :: L) x (by simp)
    simp [Lib.join, List.intercalate] at ih ⊢
    exact ih

theorem join_step0 (O : ByteArray) (A : PartT) (L : List (List UInt8)) (hO : O = ⟨(Lib.join L [44]).toArray⟩) (hL : L = []) : (O ++ ⟨(ptext A).toArray⟩ : ByteArray) = ⟨(Lib.join (L ++ [ptext A]) [44]).toArray⟩ := by
  subst hO hL
  apply ByteArray.ext
  apply Array.toList_inj.1
  simp [Lib.join, List.intercalate, ByteArray.data_append]
theorem join_step1 (O : ByteArray) (A : PartT) (L : List (List UInt8)) (hO : O = ⟨(Lib.join L [44]).toArray⟩) (hL : L ≠ []) : (O ++ ⟨#[44]⟩ ++ ⟨(ptext A).toArray⟩ : ByteArray) = ⟨(Lib.join (L ++ [ptext A]) [44]).toArray⟩ := by
  subst hO
  apply ByteArray.ext
  apply Array.toList_inj.1
  rw [join_snoc L _ hL]
  simp [ByteArray.data_append]

set_option maxRecDepth 20000 in
set_option maxHeartbeats 3200000 in
theorem sNameText_any (a : Option Addr) (len cap : Nat) (l : List PartT) (w : World) (hl : len ≤ maxLen) (hs : SlP w a len l) (hok : ∀ q ∈ l, PartT.Ok q) :
    Calls Try.prog 10 #[.slice a len cap] w fun e w' => e = .returned (.string (nameT l)) ∧ Below w.heap.size w w' := by
  have q1 := hide (sGoodDirName_any a len cap l w hl hs hok)
  have HS := hide hs
  unfold nameT
  cases hd : dirB l
  · rw [hd] at q1
    rw [if_neg (by simp)]
    clear hd
    go_enter Try.func10, Try.ntmps10
    go_wp2_with fail
    refine (unhide q1).mono ?_
    rintro e w1 ⟨rfl, hb⟩
    go_wp2_with fail
    go_ret
    exact ⟨rfl, hb⟩
  rw [hd] at q1
  rw [if_pos rfl]
  have h8 : len ≤ 8 := by rw [hs.1]; unfold dirB at hd; simp at hd; exact hd.1
  have hg : Hid (∀ q ∈ l, partB q = true) := hide (by unfold dirB at hd; simp at hd; exact hd.2)
  clear hd hs hok hl
  go_enter Try.func10, Try.ntmps10
  go_wp2_with fail
  refine (unhide q1).mono ?_
  rintro e w1 ⟨rfl, hb⟩
  have B1 := hide hb
  clear hb q1
  go_wp2_with fail
  go_loopw [3, 11] (fun v i w' => ∃ (k : Nat) (O : ByteArray), k ≤ len ∧ i = .int .i64 k ∧ v = .string O ∧ O.size ≤ 212 * k ∧ Hid (O = ⟨(Lib.join ((l.take k).map ptext) [44]).toArray⟩) ∧ Hid (Below w1.heap.size w1 w')) (fun _ i _ => len - (intOf i).toNat)
  case atStart => exact ⟨0, ⟨#[]⟩, Nat.zero_le _, rfl, rfl, Nat.le_refl _, hide rfl, hide (Below.refl _ _)⟩
  case round =>
    obtain ⟨k, O, hk, rfl, rfl, hOz, hO, hb⟩ := hrel
    by_cases hlt : k < len
    · obtain ⟨b, off, rfl, hrow⟩ := ((unhide HS).keep (bTr (unhide B1) (unhide hb))).at hlt
      have hk' : k < l.length := by rw [← (unhide HS).1]; exact hlt
      have c0 := hrow.c0 k hk'
      have c1 := hrow.c1 k hk'
      have eT := hide (map_snoc l k hk' ptext)
      have hA := hide (unhide hg _ (List.getElem_mem hk'))
      clear hrow
      generalize l[k] = A at c0 c1 eT hA
      obtain ⟨W0, hW0⟩ : ∃ W, W = wr.alloc (.cells #[.string A.a, .string A.t] 55) := ⟨_, rfl⟩
      have HW0 := hide hW0
      obtain ⟨B, hB⟩ : ∃ B, B = wr.heap.size := ⟨_, rfl⟩
      have HB := hide hB
      have RA : RowIs W0 B #[.string A.a, .string A.t] 55 := by rw [hW0, hB]; exact RowIs.new _ _ _
      have zB := RA.lt
      have cA := RA.at (o := 0) (v := .string A.a) rfl
      have cT := RA.at (o := 1) (v := .string A.t) rfl
      have BW := hide (show Below w1.heap.size w1 W0 by rw [hW0]; exact bAl (unhide hb) _)
      clear hW0 hB RA
      have hsz : A.t.size ≤ 1000 := by have := (partB_len (unhide hA)).2.2; omega
      have hsl : Hid (∀ w, Calls Try.prog 37 #[.string A.t, .string ⟨#[44, 92]⟩] w fun e w' => e = .returned (.string ⟨(esc [44, 92] A.t.data.toList).toArray⟩) ∧ Below w.heap.size w w') := hide (fun w => escaped_any A.t ⟨#[44, 92]⟩ hsz (by decide) w)
      have hp := hide (part_bytes A)
      have hsa : A.a.size ≤ 30 := (partB_len (unhide hA)).1
      have hsx : (⟨(esc [44, 92] A.t.data.toList).toArray⟩ : ByteArray).size ≤ 180 := esc_size A (unhide hA)
      generalize (⟨(esc [44, 92] A.t.data.toList).toArray⟩ : ByteArray) = X at hsl hp hsx
      have ne : Nonempty (Kept W0) := ⟨⟨W0, Below.refl _ _⟩⟩
      have e0 := kept_cell zB cA
      have e1 := kept_cell zB cT
      have hq5 : ¬ 9223372036854775806 < A.a.size := by omega
      have hq6 : A.a.size ≤ 9223372036854775806 := by omega
      have hq7 : ¬ 9223372036854775807 < A.a.size + 1 + X.size := by omega
      have hq8 : A.a.size + 1 + X.size ≤ 9223372036854775807 := by omega
      by_cases hk0 : k = 0
      · have st := hide (join_step0 O A _ (unhide hO) (by rw [hk0]; rfl))
        have hr1 : ¬ 9223372036854775807 < O.size + (A.a.size + 1 + X.size) := by omega
        have hr2 : O.size + (A.a.size + 1 + X.size) ≤ 9223372036854775807 := by omega
        have hk1 : ¬ (0 : Int) < (k : Int) := by omega
        have HK0 := hide hk0
        clear hk0
        go_wp2_with fail
        rw [← unhide HW0, ← unhide HB]
        refine wp_region_kept (by kernel_rfl) (by kernel_rfl) ?_
        repeat (first
          | go_big_quiet_step ((go_at_call 37; exact kept_call (unhide hsl _)))
          | quiet_step ((go_at_call 37; exact kept_call (unhide hsl _))))
        refine wpQuiet_nil ?_
        rintro _ ⟨q, rfl⟩
        obtain ⟨w3, hb3⟩ := q
        clear ne e0 e1
        go_wp2_with fail
        refine ⟨⟨k + 1, _, by omega, by go_num, rfl, ?_, hide ?_, hide (bTr (unhide BW) hb3)⟩, by simp [intOf]; omega⟩
        · simp only [ByteArray.size_append]
          have : (⟨#[61]⟩ : ByteArray).size = 1 := rfl
          omega
        · rw [unhide hp, unhide st, unhide eT]
      · have st := hide (join_step1 O A _ (unhide hO) (by
          intro h
          have := congrArg List.length h
          simp at this
          rcases this with h | h
          · exact hk0 h
          · rw [h] at hk'; simp at hk'))
        have ho1 : ¬ 9223372036854775806 < O.size := by omega
        have ho2 : O.size ≤ 9223372036854775806 := by omega
        have ho3 : (O ++ ⟨#[44]⟩ : ByteArray).size ≤ 212 * k + 1 := by
          rw [ByteArray.size_append]
          have : (⟨#[44]⟩ : ByteArray).size = 1 := rfl
          omega
        have hk1 : (0 : Int) < (k : Int) := by omega
        go_wp2_with fail
        rw [← unhide HW0, ← unhide HB]
        generalize (O ++ ⟨#[44]⟩ : ByteArray) = O' at st ho3
        have hr1 : ¬ 9223372036854775807 < O'.size + (A.a.size + 1 + X.size) := by omega
        have hr2 : O'.size + (A.a.size + 1 + X.size) ≤ 9223372036854775807 := by omega
        refine wp_region_kept (by kernel_rfl) (by kernel_rfl) ?_
        repeat (first
          | go_big_quiet_step ((go_at_call 37; exact kept_call (unhide hsl _)))
          | quiet_step ((go_at_call 37; exact kept_call (unhide hsl _))))
        refine wpQuiet_nil ?_
        rintro _ ⟨q, rfl⟩
        obtain ⟨w3, hb3⟩ := q
        clear ne e0 e1
        go_wp2_with fail
        refine ⟨⟨k + 1, _, by omega, by go_num, rfl, ?_, hide ?_, hide (bTr (unhide BW) hb3)⟩, by simp [intOf]; omega⟩
        · simp only [ByteArray.size_append]
          have : (⟨#[61]⟩ : ByteArray).size = 1 := rfl
          omega
        · rw [unhide hp, unhide st, unhide eT]
    · have e : k = l.length := by rw [← (unhide HS).1]; omega
      have ho := hO
      rw [e, List.take_length] at ho
      go_wp2_with fail
      go_ret
      exact ⟨by rw [unhide ho]; rfl, bTr (unhide B1) (unhide hb)⟩
end Go.Proofs.Ytgfecakjdoccmaa
