/- spec.l1Text at an address. -/
import Derived.Test.YtfdfglblcgdoiaaDoorQAtT
namespace Go.Proofs.YtfdfglblcgdoiaaDoor
open Go.RowKit

set_option maxRecDepth 8000 in
set_option maxHeartbeats 2000000 in
theorem l1TextA_any (n : Int) (t ty : ByteArray) (w : World) (h8 : -9223372036854775808 ≤ n) (h9 : n ≤ 9223372036854775807) (hg : goodAtom 6 n t ty = true) :
    Calls Tryd.prog 28 #[.agg #[.int .i64 6, .int .i64 n, .string t, .string ty]] w fun e w' => e = .returned (.string ⟨(atomL 6 n t ty).toArray⟩) ∧ Below w.heap.size w w' := by
  have B := hide (bAl (Below.refl w.heap.size w) (.cells #[.int .i64 6, .int .i64 n, .string t, .string ty] 38))
  have R := hide (RowIs.new w #[.int .i64 6, .int .i64 n, .string t, .string ty] 38)
  have HG := hide hg
  clear hg
  obtain ⟨a0, a1, a2⟩ := good_addr (unhide HG)
  have qo := hide (fun w => l1Block_any 6 n t ty w a0 h9 a2)
  have HE := hide (show atomL 6 n t ty = blkL (n / 64) (n % 64) from rfl)
  generalize atomL 6 n t ty = E at HE
  obtain ⟨F, hF⟩ : ∃ F, n / 64 = F := ⟨_, rfl⟩
  have hF0 : 0 ≤ F := by omega
  have hF1 : F < 4294967296 := by omega
  have hm0 : 0 ≤ n % 64 := by omega
  rw [hF] at qo HE
  clear hF a1
  obtain ⟨x1, ex1⟩ : ∃ x, F / 16777216 = x := ⟨_, rfl⟩
  obtain ⟨x2, ex2⟩ : ∃ x, F / 65536 % 256 = x := ⟨_, rfl⟩
  obtain ⟨x3, ex3⟩ : ∃ x, F / 256 % 256 = x := ⟨_, rfl⟩
  obtain ⟨x4, ex4⟩ : ∃ x, F % 256 = x := ⟨_, rfl⟩
  obtain ⟨x5, ex5⟩ : ∃ x, n % 64 = x := ⟨_, rfl⟩
  have HE2 := hide (show blkL F (n % 64) = Lib.join ([x1, x2, x3, x4].map Lib.itoa) [46] ++ 47 :: Lib.itoa x5 by rw [← ex1, ← ex2, ← ex3, ← ex4, ← ex5]; rfl)
  have b1 : 0 ≤ x1 ∧ x1 ≤ 4294967296 := by omega
  have b2 : 0 ≤ x2 ∧ x2 ≤ 4294967296 := by omega
  have b3 : 0 ≤ x3 ∧ x3 ≤ 4294967296 := by omega
  have b4 : 0 ≤ x4 ∧ x4 ≤ 4294967296 := by omega
  have b5 : 0 ≤ x5 ∧ x5 ≤ 4294967296 := by omega
  obtain ⟨I, hI⟩ : ∃ I : Int → ByteArray, ∀ x, I x = ⟨(Lib.itoa x).toArray⟩ := ⟨fun x => ⟨(Lib.itoa x).toArray⟩, fun x => rfl⟩
  have HI := hide hI
  have qn := hide (show ∀ x w, (0 ≤ x ∧ x ≤ 4294967296) → Calls Tryd.prog 46 #[.int .i64 x] w fun e w' => e = .returned (.string (I x)) ∧ Below w.heap.size w w' from
    fun x w hx => by rw [unhide HI]; exact l1Num_any x w (by omega) (by omega))
  have zn : ∀ x : Int, (0 ≤ x ∧ x ≤ 4294967296) → (I x).size ≤ 21 := fun x hx => by
    rw [unhide HI]; show (Lib.itoa x).toArray.size ≤ _; rw [List.size_toArray]; exact Lib.itoa_length_le x (by omega) (by omega)
  have z1 := zn x1 b1
  have z2 := zn x2 b2
  have z3 := zn x3 b3
  have z4 := zn x4 b4
  have z5 := zn x5 b5
  clear hI zn
  have fin := hide (show (I x1 ++ ⟨#[46]⟩ ++ I x2 ++ ⟨#[46]⟩ ++ I x3 ++ ⟨#[46]⟩ ++ I x4 ++ ⟨#[47]⟩ ++ I x5 : ByteArray) = ⟨E.toArray⟩ by
    rw [unhide HE, unhide HE2, unhide HI, unhide HI, unhide HI, unhide HI, unhide HI]
    apply ByteArray.ext
    apply Array.toList_inj.1
    simp [ByteArray.data_append, Lib.join, List.intercalate])
  have s1 : ¬ 9223372036854775806 < (I x1).size := by omega
  have s2 : ¬ 9223372036854775807 < (I x1).size + 1 + (I x2).size := by omega
  have s3 : ¬ 9223372036854775806 < (I x1).size + 1 + (I x2).size := by omega
  have s4 : ¬ 9223372036854775807 < (I x1).size + 1 + (I x2).size + 1 + (I x3).size := by omega
  have s5 : ¬ 9223372036854775806 < (I x1).size + 1 + (I x2).size + 1 + (I x3).size := by omega
  have s6 : ¬ 9223372036854775807 < (I x1).size + 1 + (I x2).size + 1 + (I x3).size + 1 + (I x4).size := by omega
  have s7 : ¬ 9223372036854775806 < (I x1).size + 1 + (I x2).size + 1 + (I x3).size + 1 + (I x4).size := by omega
  have s8 : ¬ 9223372036854775807 < (I x1).size + 1 + (I x2).size + 1 + (I x3).size + 1 + (I x4).size + 1 + (I x5).size := by omega
  go_enter Tryd.func28, Tryd.ntmps28
  go_wp2_with fail
  refine (unhide qo _).mono ?_
  rintro e w2 ⟨rfl, hb2⟩
  have B2 := hide (bTr (unhide B) hb2)
  replace R := hide ((unhide R).keep hb2)
  clear hb2 qo
  have ne : Nonempty (Kept w2) := ⟨⟨w2, Below.refl _ _⟩⟩
  have f1 := kept_cell (unhide R).lt ((unhide R).at (o := 1) (v := .int .i64 n) rfl)
  go_wp2_with fail
  refine wp_region_kept (by kernel_rfl) (by kernel_rfl) ?_
  repeat (first
    | go_big_quiet_step ((go_at_call 46; exact kept_call (unhide qn _ _ (by assumption))))
    | quiet_step ((go_at_call 46; exact kept_call (unhide qn _ _ (by assumption)))))
  refine wpQuiet_nil ?_
  rintro _ ⟨q, rfl⟩
  obtain ⟨w3, hb3⟩ := q
  go_wp2_with fail
  go_ret
  exact ⟨by rw [← unhide fin]; rfl, bTr (unhide B2) hb3⟩
end Go.Proofs.YtfdfglblcgdoiaaDoor
