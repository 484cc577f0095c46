/- l1Cur.dirName. -/
import Derived.Test.YtgfecakjdoccmaaXOf
namespace Go.Proofs.Ytgfecakjdoccmaa.C
open Go.RowKit

def DN (l : List PartT) : Prop := 1 ≤ l.length ∧ l.length ≤ 3 ∧ ∀ q ∈ l, q.a.size ≤ 2 ∧ q.t.size ≤ 5
def five : List ByteArray := [⟨#[97, 110, 110]⟩, ⟨#[98, 111, 98]⟩, ⟨#[67, 121]⟩, ⟨#[100, 44, 101]⟩, ⟨#[92, 102]⟩]
def two : List ByteArray := [⟨#[108, 97, 98]⟩, ⟨#[115, 97, 108, 101, 115]⟩]
theorem five_size {s : ByteArray} (h : s ∈ five) : s.size ≤ 5 := by
  unfold five at h
  simp only [List.mem_cons, List.not_mem_nil, or_false] at h
  rcases h with rfl | rfl | rfl | rfl | rfl <;> decide
theorem two_size {s : ByteArray} (h : s ∈ two) : s.size ≤ 5 := by
  unfold two at h
  simp only [List.mem_cons, List.not_mem_nil, or_false] at h
  rcases h with rfl | rfl <;> decide
theorem five_row (w : World) : StrRow (w.alloc (.cells #[.string ⟨#[97, 110, 110]⟩, .string ⟨#[98, 111, 98]⟩, .string ⟨#[67, 121]⟩, .string ⟨#[100, 44, 101]⟩, .string ⟨#[92, 102]⟩] 9)) w.heap.size 0 five := strs_row w five
theorem two_row (w : World) : StrRow (w.alloc (.cells #[.string ⟨#[108, 97, 98]⟩, .string ⟨#[115, 97, 108, 101, 115]⟩] 9)) w.heap.size 0 two := strs_row w two

/-- The drawer's state: its row, its cursor, and that all else is as it was. -/
structure DS (w : World) (b m : Nat) (v : Value) (l : List PartT) (x : World) : Prop where
  o : x.ownsRow w.heap.size 55 2 v l.length (partsV l)
  c : CurOk x b m
  t : But b w x
  z : b < w.heap.size
theorem DS.al {w x : World} {b m : Nat} {v : Value} {l : List PartT} (h : DS w b m v l x) (o : Obj) : DS w b m v l (x.alloc o) := ⟨h.o.alloc o, h.c.alW o, h.t.al o, h.z⟩
theorem DS.step {w x y : World} {b m k : Nat} {v : Value} {l : List PartT} (h : DS w b m v l x) (hc : CurOk y b k) (hb : But b x y) : DS w b k v l y := by
  refine ⟨⟨h.o.1, h.o.2.imp_right ?_⟩, hc, h.t.trans hb, h.z⟩
  rintro ⟨g, cap, cur, e', h1, hh, r⟩
  have hl : g < x.heap.size := (Array.getElem?_eq_some_iff.1 hh).1
  have hz := h.z
  exact ⟨g, cap, cur, e', h1, by rw [hb.block g hl (by omega)]; exact hh, r⟩
theorem DS.push {w x y : World} {b m : Nat} {v v' : Value} {l : List PartT} {X Z : ByteArray} {o : Obj} (h : DS w b m v l x) (hown : y.ownsRow w.heap.size 55 2 v' (l.length + 1) (partsV l ++ [.string X, .string Z])) (hg : (x.alloc o).grownBy y v.ownBlock) : DS w b m v' (l ++ [⟨X, Z⟩]) y := by
  have hz := h.t.size
  have k : Below w.heap.size x y := ⟨hg.os, hg.tape, hg.output, by have := hg.size; simp at this; omega, fun j hj => by
    rw [hg.block j (by simp; omega) (fun e => by have := (h.o.lt j e.symm).1; omega)]
    exact (bAl (Below.refl x.heap.size x) o).block j (by omega)⟩
  exact ⟨by rw [partsV_snoc, List.length_append]; exact hown, h.c.keepB k h.z, h.t.thenBelow k, h.z⟩
theorem DS.start {w : World} {b m : Nat} (h : CurOk w b m) : DS w b m (.slice none 0 0) [] w := ⟨World.ownsRow_nil _ _ _ _, h, But.refl _ _, h.lt⟩
theorem DS.mono {w x : World} {b m m' : Nat} {v : Value} {l : List PartT} (h : DS w b m v l x) (hm : m ≤ m') : DS w b m' v l x := ⟨h.o, h.c.mono hm, h.t, h.z⟩

set_option maxRecDepth 8000 in
set_option maxHeartbeats 2000000 in
theorem dirName_any (b m : Nat) (w : World) (hm : m ≤ 700000) (hc : CurOk w b m) :
    Calls Try.prog 32 #[.pointer (some ⟨b, 0, none⟩)] w fun e w' => (∃ v l, e = .returned v ∧ DN l ∧ DS w b (m + 10) v l w') := by
  obtain ⟨i0, hi, hz0, hz1, hz2⟩ := info_parts info_part
  have D0 := hide (DS.start hc)
  clear hc
  go_enter Try.func32, Try.ntmps32
  go_wp2_with fail
  refine (one_any b m 4 _ (by omega) (by omega) (by omega) (unhide D0).c).mono ?_
  rintro e w1 ⟨⟨r1, rfl⟩, hc1, hb1⟩
  have E1 := hide ((unhide D0).step hc1 hb1)
  clear hc1 hb1 D0
  cases r1
  · go_wp2_with fail
    refine (of_any b (m + 2) _ five 5 _ (by omega) (by omega) (by omega) rfl ((unhide E1).al _).c (five_row _) (by have := (unhide E1).z; have := (unhide E1).t.size; omega)).mono ?_
    rintro e v1 ⟨⟨s1, hs1, rfl⟩, hc1, hb1⟩
    have F1 := hide (((unhide E1).al _).step hc1 hb1)
    have S1 := hide (five_size hs1)
    clear hc1 hb1 E1 hs1
    go_wp2_with (at_builtin; refine wpList_append_own _ rfl _ _ 23 rfl w.heap.size 55 i0 _ 2 32 Try.underlying23 hi hz0 hz1 hz2 rfl (by decide) _ _ _ rfl ((unhide F1).o.alloc _) ⟨_, 0, none⟩ 1 1 [.string ⟨#[99, 110]⟩, .string s1] rfl rfl (cell_two_at _ _ rfl _ _ _) (fun x hx => by simp at hx; rcases hx with rfl | rfl <;> rfl) (by unfold maxLen; simp) (by simp) (by have := (unhide F1).t.size; simp; omega) ?_; intro u5 x5 hown5 hgrow5 _; have G5 := hide ((unhide F1).push hown5 hgrow5); clear hown5 hgrow5)
    skip
    refine (one_any b (m + 2 + 2) 3 _ (by omega) (by omega) (by omega) (unhide G5).c).mono ?_
    rintro e w2 ⟨⟨r2, rfl⟩, hc2, hb2⟩
    have E2 := hide ((unhide G5).step hc2 hb2)
    clear hc2 hb2 G5
    cases r2
    · go_wp2_with fail
      refine (of_any b ((m + 2 + 2) + 2) _ two 2 _ (by omega) (by omega) (by omega) rfl ((unhide E2).al _).c (two_row _) (by have := (unhide E2).z; have := (unhide E2).t.size; omega)).mono ?_
      rintro e v3 ⟨⟨s3, hs3, rfl⟩, hc3, hb3⟩
      have F3 := hide (((unhide E2).al _).step hc3 hb3)
      have S3 := hide (two_size hs3)
      clear hc3 hb3 E2 hs3
      go_wp2_with (first | (at_builtin; refine wpList_append_own _ rfl _ _ 23 rfl w.heap.size 55 i0 _ 2 32 Try.underlying23 hi hz0 hz1 hz2 rfl (by decide) _ _ _ rfl ((unhide F3).o.alloc _) ⟨_, 0, none⟩ 1 1 [.string ⟨#[111, 117]⟩, .string s3] rfl rfl (cell_two_at _ _ rfl _ _ _) (fun x hx => by simp at hx; rcases hx with rfl | rfl <;> rfl) (by unfold maxLen; simp) (by simp) (by have := (unhide F3).t.size; simp; omega) ?_; intro u4 x4 hown4 hgrow4 _; have G4 := hide ((unhide F3).push hown4 hgrow4); clear hown4 hgrow4) | (at_builtin; refine wpList_append_own _ rfl _ _ 23 rfl w.heap.size 55 i0 _ 2 32 Try.underlying23 hi hz0 hz1 hz2 rfl (by decide) _ _ _ rfl ((unhide G4).o.alloc _) ⟨_, 0, none⟩ 1 1 [.string ⟨#[111]⟩, .string ⟨#[111, 114, 103]⟩] rfl rfl (cell_two_at _ _ rfl _ _ _) (fun x hx => by simp at hx; rcases hx with rfl | rfl <;> rfl) (by unfold maxLen; simp) (by simp) (by have := (unhide G4).t.size; simp; omega) ?_; intro u9 x9 hown9 hgrow9 _; have G9 := hide ((unhide G4).push hown9 hgrow9); clear hown9 hgrow9))
      go_ret
      refine ⟨_, _, rfl, ⟨by simp, by simp, fun q hq => ?_⟩, (unhide G9).mono (by omega)⟩
      simp at hq
      rcases hq with rfl | rfl | rfl
      · exact ⟨by show (⟨#[99, 110]⟩ : ByteArray).size ≤ 2; decide, unhide S1⟩
      · exact ⟨by show (⟨#[111, 117]⟩ : ByteArray).size ≤ 2; decide, unhide S3⟩
      · exact ⟨by decide, by decide⟩
    · go_wp2_with (at_builtin; refine wpList_append_own _ rfl _ _ 23 rfl w.heap.size 55 i0 _ 2 32 Try.underlying23 hi hz0 hz1 hz2 rfl (by decide) _ _ _ rfl ((unhide E2).o.alloc _) ⟨_, 0, none⟩ 1 1 [.string ⟨#[111]⟩, .string ⟨#[111, 114, 103]⟩] rfl rfl (cell_two_at _ _ rfl _ _ _) (fun x hx => by simp at hx; rcases hx with rfl | rfl <;> rfl) (by unfold maxLen; simp) (by simp) (by have := (unhide E2).t.size; simp; omega) ?_; intro u9 x9 hown9 hgrow9 _; have G9 := hide ((unhide E2).push hown9 hgrow9); clear hown9 hgrow9)
      go_ret
      refine ⟨_, _, rfl, ⟨by simp, by simp, fun q hq => ?_⟩, (unhide G9).mono (by omega)⟩
      simp at hq
      rcases hq with rfl | rfl
      · exact ⟨by show (⟨#[99, 110]⟩ : ByteArray).size ≤ 2; decide, unhide S1⟩
      · exact ⟨by decide, by decide⟩
  · skip
    go_wp2_with fail
    refine (one_any b (m + 2) 3 _ (by omega) (by omega) (by omega) (unhide E1).c).mono ?_
    rintro e w2 ⟨⟨r2, rfl⟩, hc2, hb2⟩
    have E2 := hide ((unhide E1).step hc2 hb2)
    clear hc2 hb2 E1
    cases r2
    · go_wp2_with fail
      refine (of_any b ((m + 2) + 2) _ two 2 _ (by omega) (by omega) (by omega) rfl ((unhide E2).al _).c (two_row _) (by have := (unhide E2).z; have := (unhide E2).t.size; omega)).mono ?_
      rintro e v3 ⟨⟨s3, hs3, rfl⟩, hc3, hb3⟩
      have F3 := hide (((unhide E2).al _).step hc3 hb3)
      have S3 := hide (two_size hs3)
      clear hc3 hb3 E2 hs3
      go_wp2_with (first | (at_builtin; refine wpList_append_own _ rfl _ _ 23 rfl w.heap.size 55 i0 _ 2 32 Try.underlying23 hi hz0 hz1 hz2 rfl (by decide) _ _ _ rfl ((unhide F3).o.alloc _) ⟨_, 0, none⟩ 1 1 [.string ⟨#[111, 117]⟩, .string s3] rfl rfl (cell_two_at _ _ rfl _ _ _) (fun x hx => by simp at hx; rcases hx with rfl | rfl <;> rfl) (by unfold maxLen; simp) (by simp) (by have := (unhide F3).t.size; simp; omega) ?_; intro u4 x4 hown4 hgrow4 _; have G4 := hide ((unhide F3).push hown4 hgrow4); clear hown4 hgrow4) | (at_builtin; refine wpList_append_own _ rfl _ _ 23 rfl w.heap.size 55 i0 _ 2 32 Try.underlying23 hi hz0 hz1 hz2 rfl (by decide) _ _ _ rfl ((unhide G4).o.alloc _) ⟨_, 0, none⟩ 1 1 [.string ⟨#[111]⟩, .string ⟨#[111, 114, 103]⟩] rfl rfl (cell_two_at _ _ rfl _ _ _) (fun x hx => by simp at hx; rcases hx with rfl | rfl <;> rfl) (by unfold maxLen; simp) (by simp) (by have := (unhide G4).t.size; simp; omega) ?_; intro u9 x9 hown9 hgrow9 _; have G9 := hide ((unhide G4).push hown9 hgrow9); clear hown9 hgrow9))
      go_ret
      refine ⟨_, _, rfl, ⟨by simp, by simp, fun q hq => ?_⟩, (unhide G9).mono (by omega)⟩
      simp at hq
      rcases hq with rfl | rfl
      · exact ⟨by show (⟨#[111, 117]⟩ : ByteArray).size ≤ 2; decide, unhide S3⟩
      · exact ⟨by decide, by decide⟩
    · go_wp2_with (at_builtin; refine wpList_append_own _ rfl _ _ 23 rfl w.heap.size 55 i0 _ 2 32 Try.underlying23 hi hz0 hz1 hz2 rfl (by decide) _ _ _ rfl ((unhide E2).o.alloc _) ⟨_, 0, none⟩ 1 1 [.string ⟨#[111]⟩, .string ⟨#[111, 114, 103]⟩] rfl rfl (cell_two_at _ _ rfl _ _ _) (fun x hx => by simp at hx; rcases hx with rfl | rfl <;> rfl) (by unfold maxLen; simp) (by simp) (by have := (unhide E2).t.size; simp; omega) ?_; intro u9 x9 hown9 hgrow9 _; have G9 := hide ((unhide E2).push hown9 hgrow9); clear hown9 hgrow9)
      go_ret
      refine ⟨_, _, rfl, ⟨by simp, by simp, fun q hq => ?_⟩, (unhide G9).mono (by omega)⟩
      simp at hq
      subst hq
      exact ⟨by decide, by decide⟩
end Go.Proofs.Ytgfecakjdoccmaa.C
