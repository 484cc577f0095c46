/- (impl.graph[string]).steps: the least number of edges to each node. -/
import Derived.Test.YtfabfgokammmhaaGTur
import Derived.Laws.OwnMore
import Derived.Laws.IdiomRangeMap
namespace Go.Proofs.Ytfabfgokammmhaa
open Go.RowKit Go.Maps

/-- What a map of numbers holds. -/
def intM (L : Bs → Option Nat) : Bs → Option Value := fun x => (L x).map fun k => Value.int .i64 (k : Int)
theorem intM_upd (L : Bs → Option Nat) (b : Bs) (k : Nat) : intM (updL L b k) = updK (intM L) b (.int .i64 (k : Int)) := by
  funext x
  unfold intM updL updK
  by_cases h : x = b
  · simp [h]
  · simp [h]
def slLen : Value → Nat
  | .slice _ n _ => n
  | _ => 0
theorem own_slLen {w : World} {base e size : Nat} {v : Value} {n : Nat} {xs : List Value} (h : w.ownsRow base e size v n xs) : slLen v = n ∧ ∃ a cap, v = .slice a n cap := by
  rcases h.2 with ⟨rfl, rfl⟩ | ⟨g, cap, cur, rfl, _⟩
  · exact ⟨rfl, none, 0, rfl⟩
  · exact ⟨rfl, _, _, rfl⟩
theorem own_not {w : World} {base e size : Nat} {v : Value} {n : Nat} {xs : List Value} {b : Nat} {o : Obj} (h : w.ownsRow base e size v n xs) (hb : w.heap[b]? = some o) (hno : ∀ cur, o ≠ .cells cur e (0, 0)) : v.ownBlock ≠ some b := by
  rcases h.2 with ⟨rfl, _⟩ | ⟨g, cap, cur, rfl, _, hg, _⟩
  · simp [Value.ownBlock]
  · intro e1
    simp [Value.ownBlock] at e1
    subst e1
    rw [hg] at hb
    exact hno cur (Option.some.inj hb).symm
theorem KM.own_ne {α : Type} {P : Program} {k : TypeId} {enc : α → Value} {w : World} {b n : Nat} {m : α → Option Value} (hm : KM P k enc w b n m) {base e size : Nat} {v : Value} {c : Nat} {xs : List Value} (h : w.ownsRow base e size v c xs) : v.ownBlock ≠ some b := by
  obtain ⟨D, ⟨es, cl, h1, _⟩, _⟩ := hm
  exact own_not h h1 (fun cur e => by cases e)
theorem KR.own_ne {α : Type} {P : Program} {k : TypeId} {enc : α → Value} {w : World} {b r n cnt : Nat} {m : α → Option Value} {done : α → Prop} (hm : KR P k enc w b r n m done cnt) {base e size : Nat} {v : Value} {c : Nat} {xs : List Value} (h : w.ownsRow base e size v c xs) : v.ownBlock ≠ some r := by
  obtain ⟨D, left, ⟨_, _, _, _, _, _, _, _, _, x5, _⟩, _⟩ := hm
  exact own_not h x5 (fun cur e => by cases e)

/-- Within a round, with the nodes that are known. -/
structure BS (E : Bs → Bs → Prop) (ms : List Bs) (s : Bs) (k : Nat) (L : Bs → Option Nat) (N : List Bs) (P : Bs → Bs → Prop) (ks : List Bs) (c0 : Nat) : Prop where
  bfs : Bfs E s k L N P
  keys : ∀ b, b ∈ ks ↔ (L b).isSome = true
  nd : ks.Nodup
  len : ks.length = c0 + N.length
  mem : ∀ b ∈ ks, b ∈ ms
theorem BS.skip {E : Bs → Bs → Prop} {ms : List Bs} {s : Bs} {k : Nat} {L : Bs → Option Nat} {N : List Bs} {P P' : Bs → Bs → Prop} {ks : List Bs} {c0 : Nat} (h : BS E ms s k L N P ks c0) (c b : Bs) (hs : (L b).isSome = true) (hP : ∀ x y, P' x y → P x y ∨ (x = c ∧ y = b)) : BS E ms s k L N P' ks c0 :=
  ⟨h.bfs.skip c b hs hP, h.keys, h.nd, h.len, h.mem⟩
theorem BS.sub {E : Bs → Bs → Prop} {ms : List Bs} {s : Bs} {k : Nat} {L : Bs → Option Nat} {N : List Bs} {P P' : Bs → Bs → Prop} {ks : List Bs} {c0 : Nat} (h : BS E ms s k L N P ks c0) (hP : ∀ x y, P' x y → P x y) : BS E ms s k L N P' ks c0 :=
  ⟨⟨h.bfs.le, h.bfs.has, h.bfs.new, fun x y p => h.bfs.met x y (hP x y p)⟩, h.keys, h.nd, h.len, h.mem⟩
theorem BS.take {E : Bs → Bs → Prop} {ms : List Bs} {s : Bs} {k : Nat} {L : Bs → Option Nat} {N : List Bs} {P P' : Bs → Bs → Prop} {ks : List Bs} {c0 : Nat} (h : BS E ms s k L N P ks c0) (c b : Bs) (hc : AtStep E s k c) (he : E c b) (hm : b ∈ ms) (hs : L b = none) (hP : ∀ x y, P' x y → P x y ∨ (x = c ∧ y = b)) : BS E ms s k (updL L b (k + 1)) (N ++ [b]) P' (b :: ks) c0 :=
  ⟨h.bfs.take c b hc he hs hP, fun x => by
    rw [List.mem_cons, h.keys x]
    unfold updL
    by_cases e : x = b
    · simp [e]
    · simp [e], List.nodup_cons.2 ⟨(fun hb => by have := (h.keys b).1 hb; rw [hs] at this; cases this), h.nd⟩, by rw [List.length_cons, h.len, List.length_append]; simp; omega, fun x hx => by
    rcases List.mem_cons.1 hx with rfl | hx
    · exact hm
    · exact h.mem x hx⟩
open Classical in
theorem BS.le {E : Bs → Bs → Prop} {ms : List Bs} {s : Bs} {k : Nat} {L : Bs → Option Nat} {N : List Bs} {P : Bs → Bs → Prop} {ks : List Bs} {c0 : Nat} (h : BS E ms s k L N P ks c0) : ks.length ≤ ms.length := nodup_le ks ms h.nd h.mem

/-- Between rounds. -/
structure BA (E : Bs → Bs → Prop) (ms : List Bs) (s : Bs) (k : Nat) (L : Bs → Option Nat) (F : List Bs) (ks : List Bs) : Prop where
  bfs : BfsAt E s k L F
  keys : ∀ b, b ∈ ks ↔ (L b).isSome = true
  nd : ks.Nodup
  mem : ∀ b ∈ ks, b ∈ ms
  many : F ≠ [] → k ≤ ks.length
  fok : ∀ b ∈ F, b = s ∨ b ∈ ms
  flen : F.length ≤ ks.length + 1
theorem BA.start (E : Bs → Bs → Prop) (ms : List Bs) (s : Bs) : BA E ms s 0 (fun _ => none) [s] [] :=
  ⟨BfsAt.start E s, fun b => by simp, List.nodup_nil, fun b h => by simp at h, fun _ => Nat.zero_le _, (fun b h => by simp at h; exact .inl h), by simp⟩
theorem BA.enter {E : Bs → Bs → Prop} {ms : List Bs} {s : Bs} {k : Nat} {L : Bs → Option Nat} {F ks : List Bs} (h : BA E ms s k L F ks) : BS E ms s k L [] (fun c b => c ∈ F.take 0 ∧ E c b) ks ks.length :=
  ⟨by have := h.bfs.enter; exact ⟨this.le, this.has, this.new, fun x y p => by have := p.1; simp at this⟩, h.keys, h.nd, by simp, h.mem⟩
theorem BS.leave {E : Bs → Bs → Prop} {ms : List Bs} {s : Bs} {k : Nat} {L : Bs → Option Nat} {N F ks : List Bs} {P : Bs → Bs → Prop} {c0 : Nat} (h : BS E ms s k L N P ks c0) (hF : ∀ b, b ∈ F ↔ AtStep E s k b) (hP : ∀ c b, c ∈ F → E c b → P c b) (hc : k ≤ c0) : BA E ms s (k + 1) L N ks :=
  ⟨h.bfs.leave hF hP, h.keys, h.nd, h.mem, fun hN => by
    have := h.len
    have : 0 < N.length := List.length_pos_iff.2 hN
    omega, (fun b hb => .inr (h.mem b ((h.keys b).2 (by rw [(h.bfs.new b hb).1]; rfl)))), by have := h.len; omega⟩
open Classical in
theorem BA.le {E : Bs → Bs → Prop} {ms : List Bs} {s : Bs} {k : Nat} {L : Bs → Option Nat} {F ks : List Bs} (h : BA E ms s k L F ks) : ks.length ≤ ms.length := nodup_le ks ms h.nd h.mem

/-- An old row of strings, still there. -/
theorem own_grown {w w' : World} {base e size : Nat} {v : Value} {n : Nat} {xs : List Value} {r : Nat} (h : w.ownsRow base e size v n xs) (hg : w.grownBy w' (some r)) (hne : v.ownBlock ≠ some r) : w'.ownsRow base e size v n xs := h.kept hg (.inr hne)
theorem own_same {w w' : World} {base e size : Nat} {v : Value} {n : Nat} {xs : List Value} (h : w.ownsRow base e size v n xs) (hg : w.grownBy w' none) : w'.ownsRow base e size v n xs := h.kept hg (by cases hv : v.ownBlock; exact .inl rfl; exact .inr (by simp))
end Go.Proofs.Ytfabfgokammmhaa
