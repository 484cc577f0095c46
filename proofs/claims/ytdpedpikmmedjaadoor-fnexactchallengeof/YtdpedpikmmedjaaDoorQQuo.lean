/- spec.l1Num; quoted texts: spec.l1Quoted, impl.quotedText. -/
import Derived.Test.YtdpedpikmmedjaaDoorQItoa
import Derived.Maps.AppendAt
namespace Go.Proofs.YtdpedpikmmedjaaDoor
open Go.RowKit

set_option maxHeartbeats 400000 in
theorem l1Num_any (n : Int) (w : World) (h0 : -9223372036854775808 ≤ n) (h1 : n ≤ 9223372036854775807) :
    Calls Tryd.prog 32 #[.int .i64 n] w fun e w' => e = .returned (.string ⟨(Lib.itoa n).toArray⟩) ∧ Below w.heap.size w w' := by
  have q := hide (fun w => l1Size_any n w h0 h1)
  have hlen := Lib.itoa_length_le n h0 h1
  by_cases hn : n < 0
  · have e1 : Lib.itoa n = 45 :: Lib.decDigits n.natAbs := by unfold Lib.itoa; rw [if_pos hn]
    rw [e1] at hlen ⊢
    have ap := hide (app_one 45 (Lib.decDigits n.natAbs))
    have hz : (⟨(Lib.decDigits n.natAbs).toArray⟩ : ByteArray).size ≤ 21 := by show (Lib.decDigits n.natAbs).toArray.size ≤ _; simp at hlen ⊢; omega
    rw [← unhide ap]
    generalize (⟨(Lib.decDigits n.natAbs).toArray⟩ : ByteArray) = X at q hz
    have q1 : ¬ 9223372036854775806 < X.size := by omega
    have q2 : X.size ≤ 9223372036854775806 := by omega
    have q3 : ¬ 9223372036854775807 < 1 + X.size := by omega
    have q4 : 1 + X.size ≤ 9223372036854775807 := by omega
    clear ap e1 hlen
    go_enter Tryd.func32, Tryd.ntmps32
    go_wp2_with fail
    refine (unhide q _).mono ?_
    rintro e w1 ⟨rfl, hb⟩
    go_wp2_with fail
    go_ret
    exact ⟨rfl, hb⟩
  · have e1 : Lib.itoa n = Lib.decDigits n.natAbs := by unfold Lib.itoa; rw [if_neg hn]; congr 1; omega
    rw [e1]
    generalize (⟨(Lib.decDigits n.natAbs).toArray⟩ : ByteArray) = X at q
    clear hlen e1
    go_enter Tryd.func32, Tryd.ntmps32
    go_wp2_with fail
    refine (unhide q _).mono ?_
    rintro e w1 ⟨rfl, hb⟩
    go_wp2_with fail
    go_ret
    exact ⟨rfl, hb⟩

/-- A byte within quotes. -/
def qb (c : UInt8) : List UInt8 := if c = 34 ∨ c = 92 then [92, c] else [c]
def qs (t : List UInt8) : List UInt8 := t.flatMap qb
def quo (t : List UInt8) : List UInt8 := 34 :: (qs t ++ [34])
theorem qs_snoc (t : List UInt8) (c : UInt8) : qs (t ++ [c]) = qs t ++ qb c := by simp [qs]
theorem own_snocU {w' : World} {base : Nat} {v' : Value} {pre : List UInt8} {c : UInt8} (h : w'.ownsRow base 5 1 v' (pre.length + 1) (pre.map byteV ++ [byteV c])) : w'.ownsRow base 5 1 v' (pre ++ [c]).length ((pre ++ [c]).map byteV) := by
  simpa using h
theorem take_at (s : ByteArray) (k : Nat) (h : k < s.size) : s.data.toList.take (k + 1) = s.data.toList.take k ++ [s[k]] := by
  rw [List.take_succ_eq_append_getElem (by simpa using h)]; rfl
theorem info_u8 : (Tryd.prog.info? 5).map (fun i => (i.zero, i.size, i.bytes)) = some (some (.int .u8 0), 1, 1) := by kernel_rfl
theorem u8_is {c : UInt8} {n : Nat} (hn : n < 256) : ((c.toNat : Int) == (n : Int)) = decide (c = UInt8.ofNat n) := by
  rw [Bool.eq_iff_iff]
  simp only [beq_iff_eq, decide_eq_true_eq]
  constructor
  · intro h
    apply UInt8.toNat_inj.1
    rw [UInt8.toNat_ofNat']
    omega
  · intro h
    rw [h, UInt8.toNat_ofNat']
    omega

theorem cells_grown {w w' : World} {o : Obj} {B : Nat} {s : ByteArray} {row : Option Nat} (h : ∀ j (h : j < s.size), w.cell? ⟨B, j, none⟩ = some (.int .u8 (s[j].toNat : Int))) (hg : (w.alloc o).grownBy w' row) (hne : row ≠ some B) :
    ∀ j (h : j < s.size), w'.cell? ⟨B, j, none⟩ = some (.int .u8 (s[j].toNat : Int)) := fun j hj => by
  have z : B < w.heap.size := World.block_lt_of_cell? w ⟨B, j, none⟩ (h j hj)
  rw [World.cell?_of_block (a := ⟨B, j, none⟩) (hg.block B (by simp; omega) (fun e => hne e.symm)), (bAl (Below.refl w.heap.size w) o).cell (p := ⟨B, j, none⟩) z]
  exact h j hj
theorem nb_grown {w : World} {o : Obj} {B : Nat} {v v' : Value} (h : v.ownBlock ≠ some B) (hat : v'.ownBlock = v.ownBlock ∨ v'.ownBlock = some (w.alloc o).heap.size) (hz : B < w.heap.size) : v'.ownBlock ≠ some B := by
  rcases hat with e | e
  · rw [e]; exact h
  · rw [e]; intro h; simp at h; omega
theorem own_keepT {w w' : World} {base n e size : Nat} {v : Value} {xs : List Value} (h : w.ownsRow base e size v n xs) (hb : Below w.heap.size w w') : w'.ownsRow base e size v n xs := by
  refine ⟨h.1, h.2.imp_right ?_⟩
  rintro ⟨g, cap, cur, e', h1, hh, r⟩
  have hl : g < w.heap.size := (Array.getElem?_eq_some_iff.1 hh).1
  exact ⟨g, cap, cur, e', h1, by rw [hb.block g hl]; exact hh, r⟩

end Go.Proofs.YtdpedpikmmedjaaDoor
