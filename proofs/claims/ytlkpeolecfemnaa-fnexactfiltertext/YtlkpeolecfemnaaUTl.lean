/- spec.l3Take: the walk. -/
import Derived.Test.YtlkpeolecfemnaaUTk
namespace Go.Proofs.Ytlkpeolecfemnaa.V
open Go.RowKit Go.Maps

def TakeEnd (w' : World) (lo r : Nat) (l : List FilterNodeT) (at_ : Nat) (e : Ending) : Prop :=
  (takeT r (l.drop at_) = none ∧ e = .returned (.tuple #[agg8 zX (.slice none 0 0), .int .i64 (-1)])) ∨
  ∃ t at' s, takeT r (l.drop at_) = some (t, l.drop at') ∧ at' ≤ l.length ∧ e = .returned (.tuple #[agg8 t.n s, .int .i64 (at' : Int)]) ∧ TrAt r w' lo s t
theorem info_l3F : (Try.prog.info? 35).map (fun i => (i.zero, i.size, i.bytes)) = some (some (.agg #[.int .i64 0, .string ByteArray.empty, .string ByteArray.empty, .int .i64 0, .slice none 0 0]), 5, 72) := by kernel_rfl

set_option maxRecDepth 20000 in
set_option maxHeartbeats 2000000 in
theorem l3Take_no (r : Nat) (a : Option Addr) (len cap : Nat) (l : List FilterNodeT) (at_ : Nat) (deep : Int) (w : World) (hd : deep + r = 21) (hr : r ≤ 20) (hs : SlFilterNode w a len l) (ha : at_ ≤ len)
    (hn : at_ = len ∨ r = 0 ∨ ∃ h : at_ < l.length, l[at_].f3 < 0 ∨ 20 < l[at_].f3) :
    Calls Try.prog 16 #[.slice a len cap, .int .i64 at_, .int .i64 deep] w fun e w' => e = .returned (.tuple #[agg8 zX (.slice none 0 0), .int .i64 (-1)]) ∧ Below w.heap.size w w' := by
  by_cases he : at_ = len
  · have d1 : (len : Int) ≤ (at_ : Int) := by omega
    clear hs hn he
    go_enter Try.func16, Try.ntmps16
    go_wp2_with fail
    refine bodyPost_ret (v := .tuple #[agg8 zX (.slice none 0 0), .int .i64 (-1)]) (by simp [results, Try.results16, go_sem]) rfl ⟨rfl, bAl (Below.refl _ _) _⟩
  have d1 : ¬ (len : Int) ≤ (at_ : Int) := by omega
  by_cases h0 : r = 0
  · have d2 : 20 < deep := by omega
    clear hs hn he
    go_enter Try.func16, Try.ntmps16
    go_wp2_with fail
    refine bodyPost_ret (v := .tuple #[agg8 zX (.slice none 0 0), .int .i64 (-1)]) (by simp [results, Try.results16, go_sem]) rfl ⟨rfl, bAl (Below.refl _ _) _⟩
  have d2 : ¬ 20 < deep := by omega
  have hlt : at_ < len := by omega
  obtain ⟨h, hk⟩ := (hn.resolve_left he).resolve_left h0
  obtain ⟨b, off, rfl, hrow⟩ := hs.at hlt
  have R1 := hrow.keep (bAl (Below.refl _ _) (.cells (row8 zX (.slice none 0 0)) 35))
  have c3 := R1.c3 at_ h
  clear hs hn he R1 hrow
  generalize l[at_] = x at *
  generalize hx : x.f3 = N at *
  clear hx
  by_cases hk1 : N < 0
  · clear hk
    go_enter Try.func16, Try.ntmps16
    go_wp2_with fail
    refine bodyPost_ret (v := .tuple #[agg8 zX (.slice none 0 0), .int .i64 (-1)]) (by simp [results, Try.results16, go_sem]) rfl ⟨rfl, bAl (Below.refl _ _) _⟩
  · replace hk := hk.resolve_left hk1
    go_enter Try.func16, Try.ntmps16
    go_wp2_with fail
    refine bodyPost_ret (v := .tuple #[agg8 zX (.slice none 0 0), .int .i64 (-1)]) (by simp [results, Try.results16, go_sem]) rfl ⟨rfl, bAl (Below.refl _ _) _⟩
end Go.Proofs.Ytlkpeolecfemnaa.V
