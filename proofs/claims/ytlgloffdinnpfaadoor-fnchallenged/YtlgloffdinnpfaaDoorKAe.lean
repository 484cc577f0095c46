/- CheckAnswer on both sides. -/
import Derived.Test.YtlgloffdinnpfaaDoorKAd
namespace Go.Proofs.YtlgloffdinnpfaaDoor.D
set_option maxRecDepth 20000
open Go.RowKit
/-- Whether the signature of what is shown is right, where all else is as said. -/
def GoodV (x : ShT) (c : List UInt8) (b : Bool) : Prop := ∀ nn : Nat, x.n = nn → VerIs x.P (ansD x.o.data.toList c nn) x.r x.z b
theorem goodV_ex (x : ShT) (c : List UInt8) : ∃ b, GoodV x c b := by
  by_cases h : ∃ nn : Nat, x.n = nn
  · obtain ⟨nn, hn⟩ := h
    by_cases q : PubIs x.P true ∧ (ansD x.o.data.toList c nn).length ≤ 20000 ∧ (1 ≤ x.r ∧ x.r < 2147483579 ∧ 0 ≤ x.z ∧ x.z < 1073741789) ∧ pw 4 x.z.toNat 2147483579 = x.r.toNat * pw x.P.toNat (eN x.r.toNat (ansD x.o.data.toList c nn)) 2147483579 % 2147483579
    · refine ⟨true, fun m hm => ?_⟩
      obtain rfl : nn = m := by rw [hn] at hm; exact Int.ofNat.inj hm
      exact { of := ⟨fun _ => q, fun _ => rfl⟩ }
    · refine ⟨false, fun m hm => ?_⟩
      obtain rfl : nn = m := by rw [hn] at hm; exact Int.ofNat.inj hm
      exact { of := ⟨fun e => absurd e (by decide), fun k => absurd k q⟩ }
  · exact ⟨true, fun m hm => absurd ⟨m, hm⟩ h⟩
/-- What CheckAnswer tells: the fault, and the key behind it. -/
def ckA (x : ShT) (pb vb : Bool) : Int := flt (unf x pb) (oth x) (decide (x.n ≤ x.kc)) (!vb)
def outA (x : ShT) (F : Int) : Value := if F = 0 then .agg #[.int .i64 x.P, .string x.ko, .int .i64 x.n] else .agg #[.int .i64 0, .string ⟨#[]⟩, .int .i64 0]
theorem outA_zero (x : ShT) : outA x 0 = .agg #[.int .i64 x.P, .string x.ko, .int .i64 x.n] := if_pos rfl
theorem outA_not (x : ShT) {F : Int} (h : ¬ F = 0) : outA x F = .agg #[.int .i64 0, .string ⟨#[]⟩, .int .i64 0] := if_neg h
set_option maxHeartbeats 4000000 in
theorem iCheckAnswer_any (x : ShT) (c : List UInt8) (pb vb : Bool) (w : World) (hp : PubIs x.P pb) (hv : GoodV x c vb) (hs : SlB w w.heap.size x.a x.len c) (hM : Mults w) :
    Calls Tryd.prog 8 #[.agg #[.int .i64 x.P, .string x.ko, .int .i64 x.kc], .slice x.a x.len x.cap, .agg #[.string x.o, .int .i64 x.n, .int .i64 x.r, .int .i64 x.z]] w fun e w' => e = .returned (.tuple #[outA x (ckA x pb vb), .int .i64 (ckA x pb vb)]) ∧ Below w.heap.size w w' := by
  obtain ⟨W, hW⟩ : ∃ W, W = ((((w.alloc (.cells #[.int .i64 x.P, .string x.ko, .int .i64 x.kc] 32)).alloc (.cells #[.string x.o, .int .i64 x.n, .int .i64 x.r, .int .i64 x.z] 28)).alloc (.cells #[.int .i64 0, .string ⟨#[]⟩, .int .i64 0] 32)).alloc (.cells x.c 51)).alloc (.cells rulesV 64) := ⟨_, rfl⟩
  have zW : W.heap.size = w.heap.size + 1 + 1 + 1 + 1 + 1 := by rw [hW]; simp
  have B0 : Below w.heap.size w W := by rw [hW]; exact bAl (bAl (bAl (bAl (bAl (Below.refl _ _) _) _) _) _) _
  have Rg : RowIs W (w.heap.size + 1 + 1 + 1 + 1) rulesV 64 := by
    rw [hW]
    have := RowIs.new ((((w.alloc (.cells #[.int .i64 x.P, .string x.ko, .int .i64 x.kc] 32)).alloc (.cells #[.string x.o, .int .i64 x.n, .int .i64 x.r, .int .i64 x.z] 28)).alloc (.cells #[.int .i64 0, .string ⟨#[]⟩, .int .i64 0] 32)).alloc (.cells x.c 51)) rulesV 64
    simpa using this
  have Rk : RowIs W w.heap.size #[.int .i64 x.P, .string x.ko, .int .i64 x.kc] 32 := by
    rw [hW]; exact ((((RowIs.new w _ _).keep (bAl (Below.refl _ _) _)).keep (bAl (Below.refl _ _) _)).keep (bAl (Below.refl _ _) _)).keep (bAl (Below.refl _ _) _)
  have Ra : RowIs W (w.heap.size + 1) #[.string x.o, .int .i64 x.n, .int .i64 x.r, .int .i64 x.z] 28 := by
    rw [hW]
    have := (((RowIs.new (w.alloc (.cells #[.int .i64 x.P, .string x.ko, .int .i64 x.kc] 32)) #[.string x.o, .int .i64 x.n, .int .i64 x.r, .int .i64 x.z] 28).keep (bAl (Below.refl _ _) (.cells #[.int .i64 0, .string ⟨#[]⟩, .int .i64 0] 32))).keep (bAl (Below.refl _ _) (.cells x.c 51))).keep (bAl (Below.refl _ _) (.cells rulesV 64))
    simpa using this
  have Rr : RowIs W (w.heap.size + 1 + 1) #[.int .i64 0, .string ⟨#[]⟩, .int .i64 0] 32 := by
    rw [hW]
    have := ((RowIs.new ((w.alloc (.cells #[.int .i64 x.P, .string x.ko, .int .i64 x.kc] 32)).alloc (.cells #[.string x.o, .int .i64 x.n, .int .i64 x.r, .int .i64 x.z] 28)) #[.int .i64 0, .string ⟨#[]⟩, .int .i64 0] 32).keep (bAl (Below.refl _ _) (.cells x.c 51))).keep (bAl (Below.refl _ _) (.cells rulesV 64))
    simpa using this
  have q := hide (fb_any x (w.heap.size + 1 + 1 + 1 + 1) (unf x pb) (oth x) (decide (x.n ≤ x.kc)) (!vb) W Rg
    (fun w' _ => unfit_any x pb w' hp) (fun _ w' _ => other_any x w') (fun _ _ w' _ => used_any x w')
    (fun e1 e2 e3 w' hb => by
      have hB := bTr B0 hb
      have u1 : (pb && (decide (AskOk x.ko.size x.len x.kc) && decide (0 ≤ x.n ∧ x.n ≤ 1000000000))) = true := by unfold unf at e1; simpa using e1
      rw [Bool.and_eq_true, Bool.and_eq_true, decide_eq_true_eq, decide_eq_true_eq] at u1
      have u2 : x.o = x.ko := by unfold oth at e2; simpa using e2
      obtain ⟨nn, hn⟩ := Int.eq_ofNat_of_zero_le u1.2.2.1
      exact forged_any x nn c vb w' hn (by rw [u2]; have := u1.2.1.1.2; omega) (by have := u1.2.1.2.1; omega) (hv nn hn) ((hs.keepB hB).mono hB.size) (hM.keepB hB hM.1)))
  have HB := hide B0
  have HW := hide hW.symm
  have HRk := hide Rk
  have HRa := hide Ra
  have HRr := hide Rr
  clear hp hv hs hM hW B0 Rg Rk Ra Rr zW
  rw [show flt (unf x pb) (oth x) (decide (x.n ≤ x.kc)) (!vb) = ckA x pb vb from rfl] at q
  generalize ckA x pb vb = F at *
  unfold ShT.c rulesV at HW
  unfold ShT.v at q
  go_enter Tryd.func8, Tryd.ntmps8
  go_wp2_with fail
  rw [unhide HW]
  refine (unhide q).mono ?_
  rintro e w2 ⟨rfl, hb2⟩
  have k2 := (unhide HRk).keep hb2
  have a2 := (unhide HRa).keep hb2
  have r2 := (unhide HRr).keep hb2
  have k0 := k2.at (o := 0) (v := .int .i64 x.P) rfl
  have k1 := k2.at (o := 1) (v := .string x.ko) rfl
  have k3 := k2.at (o := 2) (v := .int .i64 x.kc) rfl
  have kf := k2.froz 2
  have kz := k2.lt
  have a1 := a2.at (o := 1) (v := .int .i64 x.n) rfl
  have az := a2.lt
  have r0 := r2.at (o := 0) (v := .int .i64 0) rfl
  have r1 := r2.at (o := 1) (v := .string ⟨#[]⟩) rfl
  have r3 := r2.at (o := 2) (v := .int .i64 0) rfl
  have f0 := r2.froz 0
  have f1 := r2.froz 1
  have f2 := r2.froz 2
  have rz := r2.lt
  have B2 := hide (bTr (unhide HB) hb2)
  clear k2 a2 r2 hb2 HRk HRa HRr HB HW q
  by_cases hF : F = 0
  · subst hF
    go_wp2_with fail
    exact bodyPost_ret (v := .tuple #[.agg #[.int .i64 x.P, .string x.ko, .int .i64 x.n], .int .i64 0]) (by simp [results, Tryd.results8, go_sem, r0, r1, r3]) rfl ⟨by rw [outA_zero], ((((unhide B2).setCell (by simp) _).setCell (by simp; omega) _).setCell (by simp; omega) _).setCell (by simp; omega) _⟩
  · have hF2 : (F != 0) = true := by simpa using hF
    go_wp2_with fail
    exact bodyPost_ret (v := .tuple #[.agg #[.int .i64 0, .string ⟨#[]⟩, .int .i64 0], .int .i64 F]) (by simp [results, Tryd.results8, go_sem, r0, r1, r3]) rfl ⟨by rw [outA_not x hF], (((unhide B2).setCell (by simp; omega) _).setCell (by simp; omega) _).setCell (by simp; omega) _⟩
theorem fiveB {w' : World} {b1 b2 T1 T2 : Nat} {x0 x1 x2 y0 y1 y2 y3 : Value} (h : RowIs w' b1 #[x0, x1, x2] T1) (k : RowIs w' b2 #[y0, y1, y2, y3] T2) :
    (w'.cell? ⟨b1, 0, none⟩ = some x0 ∧ w'.cell? ⟨b1, 1, none⟩ = some x1) ∧ w'.cell? ⟨b2, 1, none⟩ = some y1 ∧ w'.cell? ⟨b2, 2, none⟩ = some y2 ∧ w'.cell? ⟨b2, 3, none⟩ = some y3 :=
  ⟨⟨h.at rfl, h.at rfl⟩, k.at rfl, k.at rfl, k.at rfl⟩
end Go.Proofs.YtlgloffdinnpfaaDoor.D
