/- CheckAnswer on both sides. -/
import Derived.Test.YtlgloffdinnpfaaDoorKAb
namespace Go.Proofs.YtlgloffdinnpfaaDoor.D
set_option maxRecDepth 20000
open Go.RowKit
/-- The number of the first rule that is broken. -/
def flt (u t s f : Bool) : Int := if u then 1 else if t then 2 else if s then 3 else if f then 4 else 0
def Says (F : FuncId) (x : ShT) (W : World) (B : Bool) : Prop := ∀ w', Below W.heap.size W w' → Calls Tryd.prog F #[x.v] w' fun e w'' => e = .returned (.bool B) ∧ Below w'.heap.size w' w''
set_option maxHeartbeats 4000000 in
theorem idx_any (x : ShT) (g b : Nat) (u t s f : Bool) (w : World) (hg : RowIs w g rulesV 64) (hb : RowIs w b x.c 51)
    (hu : Says 25 x w u) (ht : u = false → Says 26 x w t) (hs : u = false → t = false → Says 27 x w s) (hf : u = false → t = false → s = false → Says 28 x w f) :
    Calls Tryd.prog 43 #[.slice (some ⟨g, 0, none⟩) 4 4, .func (Fn.func 44) #[] #[.pointer (some ⟨b, 0, none⟩)]] w fun e w' => e = .returned (.int .i64 (flt u t s f - 1)) ∧ Below w.heap.size w w' := by
  have HG := hide hg
  have HB := hide hb
  have HU := hide hu
  have HT := hide ht
  have HS := hide hs
  have HF := hide hf
  clear hg hb hu ht hs hf
  go_enter Tryd.func43, Tryd.ntmps43
  go_wp2_with fail
  go_loopw [8] (fun i w' => ∃ k : Nat, k ≤ 4 ∧ i = .int .i64 k ∧ Hid ((1 ≤ k → u = false) ∧ (2 ≤ k → t = false) ∧ (3 ≤ k → s = false) ∧ (4 ≤ k → f = false)) ∧ Hid (Below w.heap.size w w')) (fun i _ => 4 - (intOf i).toNat)
  case atStart => exact ⟨0, by omega, rfl, hide ⟨by omega, by omega, by omega, by omega⟩, hide (Below.refl _ _)⟩
  case round =>
    obtain ⟨k, hk, rfl, hK, hbel⟩ := hrel
    by_cases hlt : k < 4
    · have rg := (unhide HG).keep (unhide hbel)
      have rb := (unhide HB).keep (unhide hbel)
      have hc : k = 0 ∨ k = 1 ∨ k = 2 ∨ k = 3 := by omega
      rcases hc with rfl | rfl | rfl | rfl
      · have y := rg.at (o := 0) (v := .func (Fn.func 25) #[] #[]) rfl
        have q := hide (fc_u x b u wr rb (unhide HU _ (unhide hbel)))
        clear rg rb
        cases hu : u
        · have q' := q
          clear q
          rw [hu] at q'
          have HH := hide hu
          clear hu
          go_wp2_with (go_at_call 44; refine (unhide q').mono ?_; rintro e w2 ⟨rfl, hb2⟩)
          exact ⟨⟨1, by omega, by go_num, hide ⟨fun _ => (by first | trivial | exact unhide HH), fun _ => by omega, fun _ => by omega, fun _ => by omega⟩, hide (bTr (unhide hbel) hb2)⟩, by simp [intOf]⟩
        · rw [hu] at q
          have E := hide (show flt u t s f - 1 = 0 by unfold flt; rw [hu]; rfl)
          go_wp2_with (go_at_call 44; refine (unhide q).mono ?_; rintro e w2 ⟨rfl, hb2⟩)
          go_ret
          exact ⟨by rw [unhide E]; rfl, bTr (unhide hbel) hb2⟩
      · have y := rg.at (o := 1) (v := .func (Fn.func 26) #[] #[]) rfl
        have q := hide (fc_t x b t wr rb (unhide HT ((unhide hK).1 (by omega)) _ (unhide hbel)))
        clear rg rb
        cases ht : t
        · have q' := q
          clear q
          rw [ht] at q'
          have HH := hide ht
          clear ht
          go_wp2_with (go_at_call 44; refine (unhide q').mono ?_; rintro e w2 ⟨rfl, hb2⟩)
          exact ⟨⟨2, by omega, by go_num, hide ⟨fun _ => (unhide hK).1 (by omega), fun _ => (by first | trivial | exact unhide HH), fun _ => by omega, fun _ => by omega⟩, hide (bTr (unhide hbel) hb2)⟩, by simp [intOf]⟩
        · rw [ht] at q
          have E := hide (show flt u t s f - 1 = 1 by unfold flt; rw [(unhide hK).1 (by omega), ht]; rfl)
          go_wp2_with (go_at_call 44; refine (unhide q).mono ?_; rintro e w2 ⟨rfl, hb2⟩)
          go_ret
          exact ⟨by rw [unhide E]; rfl, bTr (unhide hbel) hb2⟩
      · have y := rg.at (o := 2) (v := .func (Fn.func 27) #[] #[]) rfl
        have q := hide (fc_s x b s wr rb (unhide HS ((unhide hK).1 (by omega)) ((unhide hK).2.1 (by omega)) _ (unhide hbel)))
        clear rg rb
        cases hs : s
        · have q' := q
          clear q
          rw [hs] at q'
          have HH := hide hs
          clear hs
          go_wp2_with (go_at_call 44; refine (unhide q').mono ?_; rintro e w2 ⟨rfl, hb2⟩)
          exact ⟨⟨3, by omega, by go_num, hide ⟨fun _ => (unhide hK).1 (by omega), fun _ => (unhide hK).2.1 (by omega), fun _ => (by first | trivial | exact unhide HH), fun _ => by omega⟩, hide (bTr (unhide hbel) hb2)⟩, by simp [intOf]⟩
        · rw [hs] at q
          have E := hide (show flt u t s f - 1 = 2 by unfold flt; rw [(unhide hK).1 (by omega), (unhide hK).2.1 (by omega), hs]; rfl)
          go_wp2_with (go_at_call 44; refine (unhide q).mono ?_; rintro e w2 ⟨rfl, hb2⟩)
          go_ret
          exact ⟨by rw [unhide E]; rfl, bTr (unhide hbel) hb2⟩
      · have y := rg.at (o := 3) (v := .func (Fn.func 28) #[] #[]) rfl
        have q := hide (fc_f x b f wr rb (unhide HF ((unhide hK).1 (by omega)) ((unhide hK).2.1 (by omega)) ((unhide hK).2.2.1 (by omega)) _ (unhide hbel)))
        clear rg rb
        cases hf : f
        · have q' := q
          clear q
          rw [hf] at q'
          have HH := hide hf
          clear hf
          go_wp2_with (go_at_call 44; refine (unhide q').mono ?_; rintro e w2 ⟨rfl, hb2⟩)
          exact ⟨⟨4, by omega, by go_num, hide ⟨fun _ => (unhide hK).1 (by omega), fun _ => (unhide hK).2.1 (by omega), fun _ => (unhide hK).2.2.1 (by omega), fun _ => (by first | trivial | exact unhide HH)⟩, hide (bTr (unhide hbel) hb2)⟩, by simp [intOf]⟩
        · rw [hf] at q
          have E := hide (show flt u t s f - 1 = 3 by unfold flt; rw [(unhide hK).1 (by omega), (unhide hK).2.1 (by omega), (unhide hK).2.2.1 (by omega), hf]; rfl)
          go_wp2_with (go_at_call 44; refine (unhide q).mono ?_; rintro e w2 ⟨rfl, hb2⟩)
          go_ret
          exact ⟨by rw [unhide E]; rfl, bTr (unhide hbel) hb2⟩
    · have k4 := unhide hK
      have E := hide (show flt u t s f - 1 = -1 by unfold flt; rw [k4.1 (by omega), k4.2.1 (by omega), k4.2.2.1 (by omega), k4.2.2.2 (by omega)]; rfl)
      clear k4
      go_wp2_with fail
      go_ret
      exact ⟨by rw [unhide E]; rfl, unhide hbel⟩
theorem Says.keep {F : FuncId} {x : ShT} {W W' : World} {B : Bool} (h : Says F x W B) (hb : Below W.heap.size W W') : Says F x W' B := fun w' h' => h w' (bTr hb h')
theorem flt_bound (u t s f : Bool) : 0 ≤ flt u t s f ∧ flt u t s f ≤ 4 := by cases u <;> cases t <;> cases s <;> cases f <;> decide
set_option maxHeartbeats 1000000 in
theorem fb_any (x : ShT) (g : Nat) (u t s f : Bool) (w : World) (hg : RowIs w g rulesV 64)
    (hu : Says 25 x w u) (ht : u = false → Says 26 x w t) (hs : u = false → t = false → Says 27 x w s) (hf : u = false → t = false → s = false → Says 28 x w f) :
    Calls Tryd.prog 24 #[x.v, .slice (some ⟨g, 0, none⟩) 4 4] w fun e w' => e = .returned (.int .i64 (flt u t s f)) ∧ Below w.heap.size w w' := by
  obtain ⟨W, hW⟩ : ∃ W, W = w.alloc (.cells x.c 51) := ⟨_, rfl⟩
  have B0 : Below w.heap.size w W := by rw [hW]; exact bAl (Below.refl _ _) _
  have q := hide (idx_any x g w.heap.size u t s f W (hg.keep B0) (by rw [hW]; exact RowIs.new _ _ _) (hu.keep B0) (fun a => (ht a).keep B0) (fun a b => (hs a b).keep B0) (fun a b c => (hf a b c).keep B0))
  have HB := hide B0
  have fb := flt_bound u t s f
  generalize flt u t s f = F at *
  obtain ⟨f0, f4⟩ := fb
  unfold ShT.c at hW
  have HW := hide hW.symm
  clear hg hu ht hs hf hW B0
  unfold ShT.v
  go_enter Tryd.func24, Tryd.ntmps24
  go_wp2_with fail
  rw [unhide HW]
  refine (unhide q).mono ?_
  rintro e w2 ⟨rfl, hb2⟩
  have e1 : (1 : Int) + (F - 1) = F := by omega
  go_wp2_with fail
  go_ret
  exact ⟨rfl, bTr (unhide HB) hb2⟩
end Go.Proofs.YtlgloffdinnpfaaDoor.D
