/- What is asked of a server. Pure. -/
import Derived.Test.YtflabaknembioaaOSv
import Derived.Test.YtflabaknembioaaWCmp
import Derived.Test.YtflabaknembioaaTId
import Derived.Test.YtflabaknembioaaWValI
namespace Go.Proofs.Ytflabaknembioaa.V
set_option linter.unusedSimpArgs false
set_option linter.unusedVariables false
set_option maxRecDepth 20000
open Go.RowKit

/-- Texts that rise, one behind the other. -/
def RisT (l : List ByteArray) : Prop := ∀ i (h : i + 1 < l.length), cmpT l[i].data.toList l[i + 1].data.toList < 0
def GRd (s : ByteArray) : Prop := 1 ≤ s.size ∧ s.size ≤ 200 ∧ textL s = true
def GSc (l : List ByteArray) : Prop := (l.length ≤ 20 ∧ ∀ p ∈ l, goodName p = true) ∧ RisT l
def GKd (k : Int) : Prop := 1 ≤ k ∧ k ≤ 4
structure GCl (x : ClientT) : Prop where
  id : idB x.f0 = true
  sec : x.f1.length = 0 ∨ x.f1.length = 16
  rl : x.f2.length ≤ 5
  rd : ∀ s ∈ x.f2, GRd s
  sc : GSc x.f3
  kl : x.f4.length ≤ 4
  kd : ∀ k ∈ x.f4, GKd k
def RisC (l : List ClientT) : Prop := ∀ i (h : i + 1 < l.length), cmpT l[i].f0.data.toList l[i + 1].f0.data.toList < 0
structure GSv (x : ServerT) : Prop where
  n : x.f0.length ≤ 20
  all : ∀ c ∈ x.f0, GCl c
  ris : RisC x.f0
  key : x.f1.length ≤ 64
  s1 : 1 ≤ x.f2 ∧ x.f2 ≤ 1000000
  l1 : 1 ≤ x.f3 ∧ x.f3 ≤ 1000000
theorem callsT {f : Nat} {args : Array Value} {w : World} {B : World → Prop} {P : Prop} (h : Calls Try.prog f args w fun e w' => RetB e P ∧ B w') (p : P) : Calls Try.prog f args w fun e w' => e = .returned (.bool true) ∧ B w' :=
  h.mono fun e w' ⟨⟨b, e1, h1⟩, h2⟩ => ⟨by rw [e1, h1.2 p], h2⟩
theorem callsF {f : Nat} {args : Array Value} {w : World} {B : World → Prop} {P : Prop} (h : Calls Try.prog f args w fun e w' => RetB e P ∧ B w') (p : ¬ P) : Calls Try.prog f args w fun e w' => e = .returned (.bool false) ∧ B w' :=
  h.mono fun e w' ⟨⟨b, e1, h1⟩, h2⟩ => ⟨by
    cases b
    · exact e1
    · exact absurd (h1.1 rfl) p, h2⟩
end Go.Proofs.Ytflabaknembioaa.V
