/- ANum, ALk, one behind the other. -/
import Derived.Test.YticidjceljjfnaaGreatDoorJ12
import Derived.Test.YticidjceljjfnaaGreatDoorJ10
import Derived.Lib.AtoiAllCases
import Derived.Test.YticidjceljjfnaaGreatDoorRows
import Derived.ProofKit
import Derived.LaidMore
import Derived.OpenShut
import Derived.ChangeVars
import Derived.Stop.Joined
import Derived.Stop.LaidErr
import Derived.Handed
import Derived.Lay
import Derived.Shelf.Vars
/- impl.guessNum, guessRef. -/
namespace Go.Proofs.YticidjceljjfnaaGreatDoor
open Go.RowKit
set_option maxRecDepth 20000

theorem gRan : Tryz.prog.globalNamed "strconv.ErrRange" = some 7 := by kernel_rfl
theorem gSyn : Tryz.prog.globalNamed "strconv.ErrSyntax" = some 6 := by kernel_rfl
theorem var_stays {w w' : World} {n : String} {g : Nat} {x : Value} (hg : Tryz.prog.globalNamed n = some g) (h : w.var? Tryz.prog n = some #[x]) (hb : Below w.heap.size w w') : w'.var? Tryz.prog n = some #[x] := by
  have hc := World.var?_cell hg h 0
  have hz : g < w.heap.size := by
    apply Classical.byContradiction
    intro hn
    unfold World.cell? at hc
    rw [Array.getElem?_eq_none (by show w.heap.size ≤ g; omega)] at hc
    simp at hc
  rw [← h]
  unfold World.var?
  rw [hg]
  simp only [Option.bind_some]
  rw [hb.block g hz]
/-- What the library's variables hold: two errors, a number, a table. -/
structure Env (w : World) : Prop where
  ran : ∃ tp p, w.var? Tryz.prog "strconv.ErrRange" = some #[.iface tp p]
  syn : ∃ tp p, w.var? Tryz.prog "strconv.ErrSyntax" = some #[.iface tp p]
  max : ∃ m : Int, w.cell? ⟨0, 0, none⟩ = some (.int .i64 m)
  tab : Tab w
theorem Env.keep {w w' : World} (h : Env w) (hb : Below w.heap.size w w') : Env w' := by
  obtain ⟨⟨tp, p, h1⟩, ⟨tq, q, h2⟩, ⟨m, h3⟩, h4⟩ := h
  exact ⟨⟨tp, p, var_stays gRan h1 hb⟩, ⟨tq, q, var_stays gSyn h2 hb⟩, ⟨m, by rw [hb.cell (World.block_lt_of_cell? w _ h3)]; exact h3⟩, h4.keep hb⟩
def NumRet (l : List UInt8) (e : Ending) : Prop := ∃ N : Int, e = .returned (.int .i64 N) ∧ (-9223372036854775808 ≤ N ∧ N ≤ 9223372036854775807) ∧ ∀ v : Int, Lib.atoiAll l = .ok v → N = v

theorem guessNum_any (s : ByteArray) (w : World) (hs : s.size ≤ 1048576) (hE : Env w) :
    Calls Tryz.prog 147 #[.string s] w fun e w' => NumRet s.data.toList e ∧ Below w.heap.size w w' := by
  obtain ⟨⟨tp, p, h1⟩, ⟨tq, q, h2⟩, _, _⟩ := hE
  cases hA : Lib.atoiAll s.data.toList with
  | ok v =>
    have hv := Lib.atoiAll_bounds hA
    have q := hide (Tryz.strconv_Atoi_ok s (by omega) v hA)
    have fin := hide (show ∀ x : Int, Lib.atoiAll s.data.toList = .ok x → v = x from fun x e => by rw [hA] at e; injection e)
    clear hA h1 h2
    go_enter Tryz.func147, Tryz.ntmps147
    go_wp2_with fail
    refine (unhide q _).mono ?_
    rintro e w1 ⟨rfl, hw⟩
    have B1 := hide (show Below w.heap.size w w1 by
      rcases hw with rfl | ⟨t, rfl⟩
      · exact Below.refl _ _
      · exact Go.Joins.below_bytesWorld _ _ _ _ (Nat.le_refl _))
    clear hw q
    go_wp2_with fail
    go_ret
    exact ⟨⟨v, rfl, hv, unhide fin⟩, unhide B1⟩
  | «syntax» =>
    have q := hide (fun w hv => Tryz.strconv_Atoi_syntax_var s (by omega) hA tq q w hv)
    have fin := hide (show ∀ x : Int, Lib.atoiAll s.data.toList = .ok x → 0 = x from fun x e => by rw [hA] at e; cases e)
    clear hA
    go_enter Tryz.func147, Tryz.ntmps147
    go_wp2_with fail
    refine (unhide q _ h2).mono ?_
    rintro e w1 ⟨n, rfl, -, -, hb1⟩
    have B1 := hide hb1
    clear hb1 q h1 h2
    go_wp2_with fail
    go_ret
    exact ⟨⟨0, rfl, by omega, unhide fin⟩, unhide B1⟩
  | range =>
    have hv := Lib.atoiSat_bounds s.data.toList
    have q := hide (fun w hv => Tryz.strconv_Atoi_range_var s (by omega) hA tp p w hv)
    generalize Lib.atoiSat s.data.toList = V at hv q
    have fin := hide (show ∀ x : Int, Lib.atoiAll s.data.toList = .ok x → V = x from fun x e => by rw [hA] at e; cases e)
    clear hA
    go_enter Tryz.func147, Tryz.ntmps147
    go_wp2_with fail
    refine (unhide q _ h1).mono ?_
    rintro e w1 ⟨n, rfl, -, -, hb1⟩
    have B1 := hide hb1
    clear hb1 q h1 h2
    go_wp2_with fail
    go_ret
    exact ⟨⟨V, rfl, hv, unhide fin⟩, unhide B1⟩

def refY (l : List UInt8) : ByteArray := ⟨(Lib.cut l [58, 58]).1.toArray⟩
def refT (l : List UInt8) : ByteArray := ⟨(gtx ((Lib.cut l [58, 58]).2.1.drop 1)).toArray⟩
theorem cut_len (l s : List UInt8) : (Lib.cut l s).1.length ≤ l.length ∧ (Lib.cut l s).2.1.length ≤ l.length := by
  unfold Lib.cut
  split
  · simp; omega
  · simp
theorem RowIs.frz {w : World} {b : Nat} {C : Array Value} {T : TypeId} (h : RowIs w b C T) (o : Nat) : w.frozen? ⟨b, o, none⟩ = false := by
  unfold RowIs at h; simp [World.frozen?, h]
theorem RowIs.get {w : World} {b : Nat} {C : Array Value} {T : TypeId} (h : RowIs w b C T) {o : Nat} {v : Value} (e : C[o]? = some v) : w.cell? ⟨b, o, none⟩ = some v := by rw [h.cell]; exact e
/-- The zero atom in a block: what a result begins with. -/
abbrev zAt : Array Value := #[.int .i64 0, .int .i64 0, .string ⟨#[]⟩, .string ⟨#[]⟩]
theorem below_set {B : Nat} {w w' : World} {b o : Nat} {v : Value} (h : Below B w w') (hb : B ≤ b) : Below B w (w'.setCell ⟨b, o, none⟩ v) := h.setCell (by simpa using hb) _

set_option maxHeartbeats 1000000 in
theorem guessRef_any (s : ByteArray) (w : World) (hs : s.size ≤ 1048576) (hE : Env w) :
    Calls Tryz.prog 148 #[.string s] w fun e w' => e = .returned (.agg #[.int .i64 4, .int .i64 0, .string (refT s.data.toList), .string (refY s.data.toList)]) ∧ Below w.heap.size w w' := by
  have b0 := bAl (Below.refl w.heap.size w) (.cells zAt 32)
  obtain ⟨m, hm⟩ := (hE.keep b0).max
  have zs := sz_list s
  have q1 := hide (Tryz.strings_Cut s ⟨#[58, 58]⟩ m _ (by omega) hm)
  rw [show (⟨#[58, 58]⟩ : ByteArray).data.toList = [58, 58] from rfl] at q1
  obtain ⟨D, hD⟩ : ∃ D : ByteArray, (⟨(Lib.cut s.data.toList [58, 58]).2.1.toArray⟩ : ByteArray) = D := ⟨_, rfl⟩
  have zD : D.size ≤ 1048576 := by
    rw [← hD]
    show (Lib.cut s.data.toList [58, 58]).2.1.toArray.size ≤ _
    have := cut_len s.data.toList [58, 58]
    rw [List.size_toArray]; omega
  have eT := hide (show (⟨(gtx (D.data.toList.drop 1)).toArray⟩ : ByteArray) = refT s.data.toList by rw [← hD]; rfl)
  have eY := hide (show (⟨(Lib.cut s.data.toList [58, 58]).1.toArray⟩ : ByteArray) = refY s.data.toList from rfl)
  have q2 := hide (fun w => guessText_any D w zD)
  rw [hD, unhide eY] at q1
  rw [unhide eT] at q2
  generalize refT s.data.toList = T at q2 ⊢
  generalize refY s.data.toList = Y at q1 ⊢
  generalize (Lib.cut s.data.toList [58, 58]).2.2 = B at q1
  have B0 := hide b0
  have R := hide (RowIs.new w zAt 32)
  clear hD eT eY hm hE b0
  go_enter Tryz.func148, Tryz.ntmps148
  go_wp2_with fail
  refine (unhide q1).mono ?_
  rintro e w1 ⟨rfl, n, rfl⟩
  go_wp2_with fail
  refine (unhide q2 _).mono ?_
  rintro e w2 ⟨rfl, hb2⟩
  have hb3 : Below (w.alloc (.cells zAt 32)).heap.size (w.alloc (.cells zAt 32)) w2 := ⟨hb2.os, hb2.tape, hb2.output, hb2.size, hb2.block⟩
  have R2 := (unhide R).keep hb3
  have B2 := hide (bTr (unhide B0) hb3)
  have j0 : w2.cell? ⟨w.heap.size, 0, none⟩ = some (.int .i64 0) := R2.get rfl
  have j1 : w2.cell? ⟨w.heap.size, 1, none⟩ = some (.int .i64 0) := R2.get rfl
  have j2 : w2.cell? ⟨w.heap.size, 2, none⟩ = some (.string ⟨#[]⟩) := R2.get rfl
  have j3 : w2.cell? ⟨w.heap.size, 3, none⟩ = some (.string ⟨#[]⟩) := R2.get rfl
  have f0 := R2.frz 0
  have f1 := R2.frz 1
  have f2 := R2.frz 2
  have f3 := R2.frz 3
  clear hb2 hb3 q1 q2 R R2
  go_wp2_with fail
  refine bodyPost_ret (v := .agg #[.int .i64 4, .int .i64 0, .string T, .string Y]) (by simp [results, Tryz.results148, go_sem, j0, j1, j2, j3]) rfl ⟨rfl, ?_⟩
  exact below_set (below_set (below_set (below_set (unhide B2) (Nat.le_refl _)) (Nat.le_refl _)) (Nat.le_refl _)) (Nat.le_refl _)
end Go.Proofs.YticidjceljjfnaaGreatDoor
/- What the laws of this seat need of the laid tables and of the world's shape. -/
namespace Go.Proofs.YticidjceljjfnaaGreatDoor
open Go.ChangeShapes Go.WideShapes Go.ChangeAt Go.RowKit
set_option maxRecDepth 100000

theorem own : ownKnob Tryz.prog.godebug = none := by kernel_rfl
theorem laidOut : laidOutB Tryz.prog = true := by kernel_rfl
def laid7 : List (String × DataW Unit) := [("math/bits.deBruijn32tab", Rows.laid_math_bits_deBruijn32tab), ("math/bits.deBruijn64tab", Rows.laid_math_bits_deBruijn64tab), ("internal/strconv.uint64pow10", Rows.laid_internal_strconv_uint64pow10), ("unicode/utf8.acceptRanges", Rows.laid_unicode_utf8_acceptRanges), ("strconv.ErrRange", Rows.laid_strconv_ErrRange), ("strconv.ErrSyntax", Rows.laid_strconv_ErrSyntax), ("unicode/utf8.first", Rows.laid_unicode_utf8_first)]
/-- A world with the tables laid meets the condition. -/
theorem all_met7 (os : Os) (args : Array Value) : laidMetH Tryz.prog laid7 ((World.laidAll Tryz.prog os laid7).forCall (fun _ _ => 0) ⟨#[], args, []⟩).memory := by
  rw [MakeChecks.laidMetH_plain _ _ _ (by kernel_rfl)]; exact laidMet_laidAll _ (by kernel_rfl) (by kernel_rfl)
theorem pow_is : (Rows.laid_internal_strconv_uint64pow10 : DataW Unit) = Lib.tabData .u64 Lib.pow10Tab := by rfl
theorem tPow : (Tryz.prog.globals[1]?).map (·.type) = some 142 := by kernel_rfl
theorem star : "*" ++ "errors.errorString" = "*errors.errorString" := by decide
theorem row_es (u : TypeId) (h : Tryz.prog.typeName? 3 u = some "*errors.errorString") : u = 170 :=
  typeName_ptr_named (nm := "errors.errorString") (by rw [star]; kernel_rfl) (by kernel_rfl) (by decide) u (by rw [star]; exact h)
theorem env_of_laid7 {W : World} (h : laidMetH Tryz.prog laid7 W) (hs : W.ShapedOpen Tryz.prog) : Env W := by
  rw [MakeChecks.laidMetH_plain _ _ _ (by kernel_rfl)] at h
  refine ⟨?_, ?_, ?_, ?_⟩
  · obtain ⟨a, s, h1, _⟩ := laid_sentinel h.tail.tail.tail.tail gRan (ti := 93) (by kernel_rfl) Tryz.underlying93 (tp := 170) row_es Tryz.underlying170 Tryz.underlying172 rfl rfl Tryz.underlying9 (by kernel_rfl) (by kernel_rfl)
    exact ⟨_, _, h1⟩
  · obtain ⟨a, s, h1, _⟩ := laid_sentinel h.tail.tail.tail.tail.tail gSyn (ti := 93) (by kernel_rfl) Tryz.underlying93 (tp := 170) row_es Tryz.underlying170 Tryz.underlying172 rfl rfl Tryz.underlying9 (by kernel_rfl) (by kernel_rfl)
    exact ⟨_, _, h1⟩
  · exact cell_of_shapedOpen_int (zero := #[.int .i64 0]) (t := 3) hs (of_decide_eq_true (by kernel_rfl)) (by kernel_rfl) rfl (by kernel_rfl) (by kernel_rfl) Tryz.underlying3
  · have h2 := h.tail.tail
    rw [pow_is] at h2
    exact Lib.tabIs_of_head gPow tPow Tryz.underlying142 Tryz.underlying130 (by kernel_rfl) (by kernel_rfl) h2
section
variable {H : Type} {enc : TypeId × Value → H}
/-- The wrap with a fact of the world and the world's shape. -/
theorem handed_shaped {a : Assume} {C : Checked} {os : Os} {f : FuncId} {fn : Func} {s : ChangeSpec} {conds : List PathCond} {apart fresh handsOn again : Bool} {X : World → Array Value → Prop}
    (hX : ∀ (w w' : World) (args : Array Value), w.heap = w'.heap → X w args → X w' args)
    (own : ownKnob C.prog.godebug = none) (started : os.Started) (noInit : C.prog.inits.idxOf? f = none) (hfn : C.prog.funcs[f]? = some fn)
    (witness : ∃ (w : World) (tape : Tape) (i : Input), w.os = os ∧ (w.forCall tape i).Shaped C.prog ∧ i.vars = [] ∧ Input.okWide C.prog (w.forCall tape i) .any w.heap.size f i ∧
      ((s.pre enc C.prog fn conds apart (w.forCall tape i).memory i.args ∧ X (w.forCall tape i).memory i.args) ∧ sizedMet enc C.prog fn (OpenSpec.ofChange s) apart (w.forCall tape i).memory i.args) ∧ a.holds C.prog (lone (Frame.enter C.prog f i.args .normal) [] (w.forCall tape i)))
    (contract : ∀ (W : World) (base : Nat) (args : Array Value) (ds gs : List (DataW H)) (before : List MemPlace),
      (∀ (j : Nat) t v, fn.params[j]? = some t → args[j]? = some v → Value.okWide C.prog W .any base t v) →
      DataW.Whole enc C.prog fn.params.toList s.vars apart W args.toList ds gs before → W.ShapedOpen C.prog → X W args →
      Calls C.prog f args W fun e W' => ∃ v, e = .returned v ∧ s.post enc C.prog fn apart fresh handsOn again W args v W') :
    ReturnsInHanded a C os f .any (fun w args => (s.pre enc C.prog fn conds apart w args ∧ X w args) ∧ sizedMet enc C.prog fn (OpenSpec.ofChange s) apart w args) (s.post enc C.prog fn apart fresh handsOn again) := by
  refine returnsInHanded_of_calls own started noInit witness ?_
  intro w tape i _ hsh _ hok hpre _
  obtain ⟨_, _, _, fn', hfn', _, _, _, _, hval⟩ := hok
  obtain rfl : fn' = fn := Option.some.inj (hfn'.symm.trans hfn)
  obtain ⟨⟨⟨ds, gs, before, hw, _⟩, hx⟩, _⟩ := hpre
  refine (contract (w.forCall tape i) w.heap.size i.args ds gs before hval (DataW.Whole.of_heap (by rfl) hw) hsh (hX _ _ _ (by rfl) hx)).mono fun e W' ⟨v, he, hp⟩ => ?_
  subst he
  exact ChangeSpec.post_blind hp
end
end Go.Proofs.YticidjceljjfnaaGreatDoor
