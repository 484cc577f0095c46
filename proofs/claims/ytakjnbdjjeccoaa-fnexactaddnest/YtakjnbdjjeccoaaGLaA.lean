/- GLaA, one behind the other. -/
import Derived.Test.YtakjnbdjjeccoaaJ26
import Derived.Test.YtakjnbdjjeccoaaJ29
import Derived.Test.YtakjnbdjjeccoaaJ28
/- What the laws of AddNest, DropNest import. -/
namespace Go.Proofs.Ytakjnbdjjeccoaa
open Go.RowKit Go.WideShapes Go.ChangeAt Go.Joins

theorem marks_grownNest {w w' : World} {v : Value} {s n : Nat} {row : Option Nat} (h : MarksNest w v s n) (hg : w.grownBy w' row) (hne : v.ownBlock = none ∨ v.ownBlock ≠ row) : MarksNest w' v s n := by
  refine h.imp_right ?_
  rintro ⟨g, cap, C, rfl, r, m⟩
  refine ⟨g, cap, C, rfl, row_grown r hg ?_, m⟩
  rcases hne with h1 | h1
  · simp [Value.ownBlock] at h1
  · simpa [Value.ownBlock] using h1
section
variable {H : Type} {enc : TypeId × Value → H} {w : World} {base : Nat} {sp : Nat → Bool} {held : Bool}
set_option maxRecDepth 8000 in
theorem readv_Nest {r : Reach} {b0 : Nat} {v0 : Value} {d : DataW H} {p : List MemPlace} (hv : Value.okWide Try.prog w r b0 36 v0) (h : DataW.Trod enc Try.prog w base sp held 36 v0 d p) :
    ∃ f g : ByteArray, v0 = .agg #[.string f, .string g] ∧ f.size ≤ maxLen ∧ g.size ≤ maxLen := by
  obtain ⟨cs, rfl, hsz⟩ := okWide_struct Try.underlying36 hv
  obtain ⟨fuel, hf0⟩ := h
  obtain ⟨c, hc, ok⟩ := read_Nest hf0
  obtain ⟨l⟩ := cs
  have : l = _ := hc
  subst this
  exact ⟨c.f0, c.f1, rfl, ok.1, ok.2⟩
end
theorem sAddNest_law (a : Option Addr) (len cap : Nat) (l : List NestT) (a1 : Option Addr) (len1 cap1 : Nat) (l1 : List ReachT) (g m : Bs) (w : World) (hl : len ≤ maxLen) (hs : SlNest w a len l) (hok : ∀ q ∈ l, NestT.Ok q) (_ : len1 ≤ maxLen) (_ : SlReach w a1 len1 l1) (_ : ∀ q ∈ l1, ReachT.Ok q) (hg : g.size ≤ maxLen) (hm : m.size ≤ maxLen) :
    Calls Try.prog 24 #[.slice a len cap, .slice a1 len1 cap1, .agg #[.string g, .string m]] w fun e w' => (∃ v u r1 r2, e = .returned (.tuple #[v, u]) ∧ PChg l (g, m) (AddS l (g, m)) r1 r2 ∧ w'.ownsRow w.heap.size 42 2 v r1.length (NestsV r1) ∧ w'.ownsRow w.heap.size 70 3 u r2.length (ReachsV r2) ∧ DJ v u) ∧ Below w.heap.size w w' :=
  sAddNest_any a len cap l a1 len1 cap1 g m w hl hs hok hg hm
theorem iAddNest_law (a : Option Addr) (len cap : Nat) (l : List NestT) (a1 : Option Addr) (len1 cap1 : Nat) (l1 : List ReachT) (g m : Bs) (w : World) (hl : len ≤ maxLen) (hs : SlNest w a len l) (hok : ∀ q ∈ l, NestT.Ok q) (_ : len1 ≤ maxLen) (_ : SlReach w a1 len1 l1) (_ : ∀ q ∈ l1, ReachT.Ok q) (hg : g.size ≤ maxLen) (hm : m.size ≤ maxLen) :
    Calls Try.prog 27 #[.slice a len cap, .slice a1 len1 cap1, .agg #[.string g, .string m]] w fun e w' => (∃ v u r1 r2, e = .returned (.tuple #[v, u]) ∧ PChg l (g, m) (AddS l (g, m)) r1 r2 ∧ w'.ownsRow w.heap.size 42 2 v r1.length (NestsV r1) ∧ w'.ownsRow w.heap.size 70 3 u r2.length (ReachsV r2) ∧ DJ v u) ∧ Below w.heap.size w w' :=
  iAddNest_any a len cap l a1 len1 cap1 g m w hl hs hok hg hm
theorem sDropNest_law (a : Option Addr) (len cap : Nat) (l : List NestT) (a1 : Option Addr) (len1 cap1 : Nat) (l1 : List ReachT) (g m : Bs) (w : World) (hl : len ≤ maxLen) (hs : SlNest w a len l) (hok : ∀ q ∈ l, NestT.Ok q) (_ : len1 ≤ maxLen) (_ : SlReach w a1 len1 l1) (_ : ∀ q ∈ l1, ReachT.Ok q) (hg : g.size ≤ maxLen) (hm : m.size ≤ maxLen) :
    Calls Try.prog 29 #[.slice a len cap, .slice a1 len1 cap1, .agg #[.string g, .string m]] w fun e w' => (∃ v u r1 r2, e = .returned (.tuple #[v, u]) ∧ PChg l (g, m) (DropS l (g, m)) r1 r2 ∧ w'.ownsRow w.heap.size 42 2 v r1.length (NestsV r1) ∧ w'.ownsRow w.heap.size 70 3 u r2.length (ReachsV r2) ∧ DJ v u) ∧ Below w.heap.size w w' :=
  sDropNest_any a len cap l a1 len1 cap1 g m w hl hs hok hg hm
theorem iDropNest_law (a : Option Addr) (len cap : Nat) (l : List NestT) (a1 : Option Addr) (len1 cap1 : Nat) (l1 : List ReachT) (g m : Bs) (w : World) (hl : len ≤ maxLen) (hs : SlNest w a len l) (hok : ∀ q ∈ l, NestT.Ok q) (_ : len1 ≤ maxLen) (_ : SlReach w a1 len1 l1) (_ : ∀ q ∈ l1, ReachT.Ok q) (hg : g.size ≤ maxLen) (hm : m.size ≤ maxLen) :
    Calls Try.prog 30 #[.slice a len cap, .slice a1 len1 cap1, .agg #[.string g, .string m]] w fun e w' => (∃ v u r1 r2, e = .returned (.tuple #[v, u]) ∧ PChg l (g, m) (DropS l (g, m)) r1 r2 ∧ w'.ownsRow w.heap.size 42 2 v r1.length (NestsV r1) ∧ w'.ownsRow w.heap.size 70 3 u r2.length (ReachsV r2) ∧ DJ v u) ∧ Below w.heap.size w w' :=
  iDropNest_any a len cap l a1 len1 cap1 g m w hl hs hok hg hm
end Go.Proofs.Ytakjnbdjjeccoaa
