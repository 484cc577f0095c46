/- GTur, GSte, one behind the other. -/
import Derived.Test.YtakjnbdjjeccoaaJ9
import Derived.Laws.OwnMore
import Derived.Laws.IdiomRangeMap
/- (impl.graph[string]).turned. -/
namespace Go.Proofs.Ytakjnbdjjeccoaa
open Go.RowKit Go.Maps

theorem KR.notMap {α : Type} {P : Program} {k : TypeId} {enc : α → Value} {w : World} {b r n cnt : Nat} {m : α → Option Value} {done : α → Prop} (h : KR P k enc w b r n m done cnt) : ∀ e c, w.heap[r]? ≠ some (.map e c) := fun e c hx => by
  obtain ⟨D, left, ⟨_, _, _, _, _, _, _, _, _, x5, _⟩, _⟩ := h
  rw [x5] at hx; cases hx
theorem topF {tab : Bs → Option Nat} {x : Bs} {v : Value} (h : topM tab x = some v) : ∃ b, tab x = some b ∧ v = .map (some b) := by
  unfold topM at h
  simp only [Option.map_eq_some_iff] at h
  obtain ⟨b, h1, h2⟩ := h
  exact ⟨b, h1, h2.symm⟩
theorem setF_some {es : List (Bs × Bs)} {a x : Bs} {v : Value} (h : setF es a x = some v) : (a, x) ∈ es ∧ v = .agg #[] := by
  unfold setF at h
  split at h
  · next hx => exact ⟨hx, (Option.some.inj h).symm⟩
  · cases h
theorem setF_isSome {es : List (Bs × Bs)} {a x : Bs} (h : (a, x) ∈ es) : (setF es a x).isSome = true := by
  unfold setF; rw [if_pos h]; rfl
open Classical in
theorem flip_le {es es' : List (Bs × Bs)} (hn : es'.Nodup) (h : ∀ x y, (x, y) ∈ es' → (y, x) ∈ es) : es'.length ≤ es.length := by
  have := nodup_le es' (es.map fun p => (p.2, p.1)) hn (fun p hp => List.mem_map.2 ⟨(p.2, p.1), h p.1 p.2 hp, rfl⟩)
  simpa using this

set_option maxRecDepth 100000 in
set_option maxHeartbeats 2000000 in
theorem turned_any (lo bg n : Nat) (es : List (Bs × Bs)) (tab : Bs → Option Nat) (w : World) (hG : GM w lo bg n es tab) (hes : es.length ≤ 200) :
    Calls Try.prog 70 #[.map (some bg)] w fun e w' => (∃ bg' es' tab', e = .returned (.map (some bg')) ∧ GM w' w.heap.size bg' 1000 es' tab' ∧ (∀ x y, (x, y) ∈ es' ↔ (y, x) ∈ es) ∧ es'.length ≤ 200) ∧ Below w.heap.size w w' := by
  have hbg := hG.top.lt
  obtain ⟨W, hW⟩ : ∃ W, W = w.alloc (.map #[] 0) := ⟨_, rfl⟩
  have GO := hide (show GM W w.heap.size w.heap.size 0 [] (fun _ => none) by rw [hW]; exact GM.made w _ (Nat.le_refl _))
  have B0 := hide (show Below w.heap.size w W by rw [hW]; exact bAl (Below.refl _ _) _)
  have HG := hide hG
  have HT := hide (hG.keepB (unhide B0) (Nat.le_refl _)).top
  have HW := hide hW.symm
  have zW := hide (show w.heap.size < W.heap.size by rw [hW]; simp)
  have HE := hide hes
  have hmm := @run_makeMap Try.prog
  clear hG hW hes
  go_enter Try.func70, Try.ntmps70
  go_wp2_with (first
    | (rw [unhide HW]; clear hmm; at_range; refine wpList_range_km _ kStr rfl _ _ rfl _ Try.underlying60 bg n _ rfl (unhide HT) ?_; intro w0 cnt0 hr0 hg0 hs0)
    | go_in)
  clear HT HW
  go_frame
  go_loopw [11] (fun _ wr => ∃ (done : Bs → Prop) (cnt : Nat) (es' : List (Bs × Bs)) (tab' : Bs → Option Nat), KR Try.prog 9 Value.string wr bg W.heap.size n (topM tab) done cnt ∧ Hid (GM wr w.heap.size w.heap.size es'.length es' tab') ∧ Hid (∀ x y, (x, y) ∈ es' ↔ done y ∧ (y, x) ∈ es) ∧ Hid es'.Nodup ∧ Hid (Below w.heap.size w wr)) (fun _ wr => wr.rangeLeft bg W.heap.size)
  case atStart => exact ⟨_, _, [], _, hr0, hide ((unhide GO).grown hg0 (fun r h => by cases h)), hide (fun x y => ⟨fun h => by simp at h, fun h => h.1.elim⟩), hide List.nodup_nil, hide ((unhide B0).trans (Below.grown (Below.refl _ _) hg0 (Nat.le_of_lt (unhide zW)) (fun _ h => by cases h)))⟩
  case round =>
    clear hr0 hg0 hs0 GO B0
    obtain ⟨done, cnt, es', tab', hr, hO, hE, hN, hB⟩ := hrel
    go_wp2_with (first
      | (at_next; refine wpList_next_km _ kStr rfl _ rfl bg W.heap.size n _ _ _ rfl hr ?_ ?_)
      | go_in)
    · intro hd
      have FIN := hide (show GM wr w.heap.size w.heap.size 1000 es' tab' ∧ (∀ x y, (x, y) ∈ es' ↔ (y, x) ∈ es) ∧ es'.length ≤ 200 from by
        have G := unhide hO
        have hE' : ∀ x y, (x, y) ∈ es' ↔ (y, x) ∈ es := fun x y => by
          rw [unhide hE x y]
          refine ⟨fun h => h.2, fun h => ⟨?_, h⟩⟩
          have ok := (unhide HG).ok y x h
          have hs := ((unhide HG).has y).2 ⟨x, h⟩
          exact hd y ok.1 (by unfold topM; simpa using hs)
        have hL : es'.length ≤ 200 := Nat.le_trans (flip_le (unhide hN) (fun x y h => (hE' x y).1 h)) (unhide HE)
        exact ⟨⟨G.base, G.top.more (by omega), fun a b e => (G.kid a b e).more (by omega), G.inj, G.ge, G.has, G.ok⟩, hE', hL⟩)
      clear hd hr hO hE hN
      go_wp2_with fail
      go_ret
      exact ⟨⟨_, es', tab', rfl, unhide FIN⟩, unhide hB⟩
    · intro x v w1 cnt1 hx hM hnd hr1 hlt hg1 hs1 hen
      obtain ⟨b, hb, rfl⟩ := topF hM
      have G1 := hide ((unhide hO).grown hg1 (fun r h => by cases h; exact hr.notMap))
      have B1 := hide ((unhide hB).grown hg1 (unhide hB).size (fun k h => by cases h; exact Nat.le_of_lt (unhide zW)))
      have hkid := (unhide HG).kid x b hb
      have zb := hkid.lt
      have K1 := hide (hkid.keepB (unhide B1) zb)
      have hc0 := hide (hr.left)
      have HND := hide hnd
      have HX := hide hx
      have zr := hr1.lt
      clear hM hnd hg1 hO hB hkid hr hs1
      go_wp2_with (first
        | (at_range; refine wpList_range_km _ kStr rfl _ _ rfl _ Try.underlying98 b n _ rfl (unhide K1) ?_; intro w2 cnt2 hr2 hg2 hs2)
        | go_in)
      go_frame
      obtain ⟨r2, hr2e⟩ : ∃ r, r = w1.heap.size := ⟨_, rfl⟩
      rw [← hr2e] at hr2
      rw [← hr2e]
      have RA := hide (show bg < r2 ∧ W.heap.size < r2 ∧ w.heap.size ≤ r2 by have := (unhide B1).size; have := unhide zW; omega)
      have KA := hide (hr1.kept hg2 (by simp) (by simp))
      have GA := hide ((unhide G1).grown hg2 (fun r h => by cases h))
      have BA := hide ((unhide B1).trans (Below.grown (Below.refl _ _) hg2 (unhide B1).size (fun _ h => by cases h)))
      clear hr1 hg2 hs2 hen K1 hr2e G1 B1 zr
      go_loopw [18] (fun _ wr => ∃ (done2 : Bs → Prop) (cnt2 : Nat) (es' : List (Bs × Bs)) (tab' : Bs → Option Nat), KR Try.prog 9 Value.string wr b r2 n (setF es x) done2 cnt2 ∧ Hid (KR Try.prog 9 Value.string wr bg W.heap.size n (topM tab) (fun y => done y ∨ y = x) cnt1) ∧ Hid (GM wr w.heap.size w.heap.size es'.length es' tab') ∧ Hid (∀ p q, (p, q) ∈ es' ↔ (done q ∧ (q, p) ∈ es) ∨ (q = x ∧ done2 p ∧ (x, p) ∈ es)) ∧ Hid es'.Nodup ∧ Hid (Below w.heap.size w wr)) (fun _ wr => wr.rangeLeft b r2)
      case atStart => exact ⟨_, _, es', tab', hr2, KA, GA, hide (fun p q => by rw [unhide hE p q]; exact ⟨.inl, fun h => h.elim id (fun h => h.2.1.elim)⟩), hN, BA⟩
      case round =>
        clear hr2 KA GA BA hE hN
        obtain ⟨done2, cnt3, fs, tab2, hr3, hK, hO, hE, hN, hB⟩ := hrel
        go_wp2_with (first
          | (at_next; refine wpList_next_km _ kStr rfl _ rfl b r2 n _ _ _ rfl hr3 ?_ ?_)
          | go_in)
        · intro hd
          have E2 := hide (show ∀ p q, (p, q) ∈ fs ↔ (done q ∨ q = x) ∧ (q, p) ∈ es from fun p q => by
            rw [unhide hE p q]
            constructor
            · rintro (⟨h1, h2⟩ | ⟨rfl, _, h2⟩)
              · exact ⟨.inl h1, h2⟩
              · exact ⟨.inr rfl, h2⟩
            · rintro ⟨h1 | rfl, h2⟩
              · exact .inl ⟨h1, h2⟩
              · exact .inr ⟨rfl, hd p ((unhide HG).ok _ _ h2).2 (setF_isSome h2), h2⟩)
          clear hd hr3 hE
          go_wp2_with fail
          exact ⟨⟨_, cnt1, fs, tab2, unhide hK, hO, E2, hN, hB⟩, by rw [(unhide hK).left, unhide hc0]; exact hlt⟩
        · intro y v w3 cnt4 hy hM hnd hr4 hlt2 hg3 hs3 hen2
          obtain ⟨hxy, rfl⟩ := setF_some hM
          have G3 := hide ((unhide hO).grown hg3 (fun r h => by cases h; exact hr3.notMap))
          have K3 := hide ((unhide hK).kept hg3 (fun e => by have := unhide RA; cases e; omega) (fun e => by have := unhide RA; cases e; omega))
          have B3 := hide ((unhide hB).grown hg3 (unhide hB).size (fun k h => by cases h; exact (unhide RA).2.2))
          have hL : fs.length ≤ 200 := Nat.le_trans (flip_le (unhide hN) (fun p q h => by rcases (unhide hE p q).1 h with h | ⟨rfl, _, h⟩; exact h.2; exact h)) (unhide HE)
          have hc3 := hide hr3.left
          have qj := hide (join_any w.heap.size w.heap.size fs.length fs tab2 y x w3 (unhide G3) (unhide B3).size (by omega) hy (unhide HX))
          have NN := hide (show ((y, x) :: fs).Nodup from List.nodup_cons.2 ⟨fun h => by
            rcases (unhide hE y x).1 h with h | h
            · exact unhide HND h.1
            · exact hnd h.2.1, unhide hN⟩)
          have E3 := hide (show ∀ p q, (p, q) ∈ (y, x) :: fs ↔ (done q ∧ (q, p) ∈ es) ∨ (q = x ∧ (done2 p ∨ p = y) ∧ (x, p) ∈ es) from fun p q => by
            rw [List.mem_cons, unhide hE p q]
            constructor
            · rintro (h | h | ⟨h1, h2, h3⟩)
              · simp only [Prod.mk.injEq] at h
                obtain ⟨rfl, rfl⟩ := h
                exact .inr ⟨rfl, .inr rfl, hxy⟩
              · exact .inl h
              · exact .inr ⟨h1, .inl h2, h3⟩
            · rintro (h | ⟨rfl, h2 | rfl, h3⟩)
              · exact .inr (.inl h)
              · exact .inr (.inr ⟨rfl, h2, h3⟩)
              · exact .inl rfl)
          clear hM hnd hg3 hs3 hxy hr3 hK hO hE hN hB G3 hL hy
          go_wp2_with fail
          refine (unhide qj).mono ?_
          rintro e w5 ⟨rfl, ⟨tab5, hG5⟩, hK5⟩
          have G5 := hide hG5
          have B5 := hide ((unhide B3).trans (hK5.below (unhide B3).size))
          have K5 := hide (hK5.kr (unhide K3) hbg)
          have R5 := hK5.kr hr4 zb
          clear hG5 hK5 qj hr4 hen2 K3 B3
          go_wp2_with fail
          exact ⟨⟨_, cnt4, (y, x) :: fs, tab5, R5, K5, G5, E3, NN, B5⟩, by rw [R5.left, unhide hc3]; exact hlt2⟩
end Go.Proofs.Ytakjnbdjjeccoaa
/- (impl.graph[string]).steps: the least number of edges to each node. -/
namespace Go.Proofs.Ytakjnbdjjeccoaa
open Go.RowKit Go.Maps

/-- What a map of numbers holds. -/
def intM (L : Bs → Option Nat) : Bs → Option Value := fun x => (L x).map fun k => Value.int .i64 (k : Int)
theorem intM_upd (L : Bs → Option Nat) (b : Bs) (k : Nat) : intM (updL L b k) = updK (intM L) b (.int .i64 (k : Int)) := by
  funext x
  unfold intM updL updK
  by_cases h : x = b
  · simp [h]
  · simp [h]
def slLen : Value → Nat
  | .slice _ n _ => n
  | _ => 0
theorem own_slLen {w : World} {base e size : Nat} {v : Value} {n : Nat} {xs : List Value} (h : w.ownsRow base e size v n xs) : slLen v = n ∧ ∃ a cap, v = .slice a n cap := by
  rcases h.2 with ⟨rfl, rfl⟩ | ⟨g, cap, cur, rfl, _⟩
  · exact ⟨rfl, none, 0, rfl⟩
  · exact ⟨rfl, _, _, rfl⟩
theorem own_not {w : World} {base e size : Nat} {v : Value} {n : Nat} {xs : List Value} {b : Nat} {o : Obj} (h : w.ownsRow base e size v n xs) (hb : w.heap[b]? = some o) (hno : ∀ cur, o ≠ .cells cur e (0, 0)) : v.ownBlock ≠ some b := by
  rcases h.2 with ⟨rfl, _⟩ | ⟨g, cap, cur, rfl, _, hg, _⟩
  · simp [Value.ownBlock]
  · intro e1
    simp [Value.ownBlock] at e1
    subst e1
    rw [hg] at hb
    exact hno cur (Option.some.inj hb).symm
theorem KM.own_ne {α : Type} {P : Program} {k : TypeId} {enc : α → Value} {w : World} {b n : Nat} {m : α → Option Value} (hm : KM P k enc w b n m) {base e size : Nat} {v : Value} {c : Nat} {xs : List Value} (h : w.ownsRow base e size v c xs) : v.ownBlock ≠ some b := by
  obtain ⟨D, ⟨es, cl, h1, _⟩, _⟩ := hm
  exact own_not h h1 (fun cur e => by cases e)
theorem KR.own_ne {α : Type} {P : Program} {k : TypeId} {enc : α → Value} {w : World} {b r n cnt : Nat} {m : α → Option Value} {done : α → Prop} (hm : KR P k enc w b r n m done cnt) {base e size : Nat} {v : Value} {c : Nat} {xs : List Value} (h : w.ownsRow base e size v c xs) : v.ownBlock ≠ some r := by
  obtain ⟨D, left, ⟨_, _, _, _, _, _, _, _, _, x5, _⟩, _⟩ := hm
  exact own_not h x5 (fun cur e => by cases e)

/-- Within a round, with the nodes that are known. -/
structure BS (E : Bs → Bs → Prop) (ms : List Bs) (s : Bs) (k : Nat) (L : Bs → Option Nat) (N : List Bs) (P : Bs → Bs → Prop) (ks : List Bs) (c0 : Nat) : Prop where
  bfs : Bfs E s k L N P
  keys : ∀ b, b ∈ ks ↔ (L b).isSome = true
  nd : ks.Nodup
  len : ks.length = c0 + N.length
  mem : ∀ b ∈ ks, b ∈ ms
theorem BS.skip {E : Bs → Bs → Prop} {ms : List Bs} {s : Bs} {k : Nat} {L : Bs → Option Nat} {N : List Bs} {P P' : Bs → Bs → Prop} {ks : List Bs} {c0 : Nat} (h : BS E ms s k L N P ks c0) (c b : Bs) (hs : (L b).isSome = true) (hP : ∀ x y, P' x y → P x y ∨ (x = c ∧ y = b)) : BS E ms s k L N P' ks c0 :=
  ⟨h.bfs.skip c b hs hP, h.keys, h.nd, h.len, h.mem⟩
theorem BS.sub {E : Bs → Bs → Prop} {ms : List Bs} {s : Bs} {k : Nat} {L : Bs → Option Nat} {N : List Bs} {P P' : Bs → Bs → Prop} {ks : List Bs} {c0 : Nat} (h : BS E ms s k L N P ks c0) (hP : ∀ x y, P' x y → P x y) : BS E ms s k L N P' ks c0 :=
  ⟨⟨h.bfs.le, h.bfs.has, h.bfs.new, fun x y p => h.bfs.met x y (hP x y p)⟩, h.keys, h.nd, h.len, h.mem⟩
theorem BS.take {E : Bs → Bs → Prop} {ms : List Bs} {s : Bs} {k : Nat} {L : Bs → Option Nat} {N : List Bs} {P P' : Bs → Bs → Prop} {ks : List Bs} {c0 : Nat} (h : BS E ms s k L N P ks c0) (c b : Bs) (hc : AtStep E s k c) (he : E c b) (hm : b ∈ ms) (hs : L b = none) (hP : ∀ x y, P' x y → P x y ∨ (x = c ∧ y = b)) : BS E ms s k (updL L b (k + 1)) (N ++ [b]) P' (b :: ks) c0 :=
  ⟨h.bfs.take c b hc he hs hP, fun x => by
    rw [List.mem_cons, h.keys x]
    unfold updL
    by_cases e : x = b
    · simp [e]
    · simp [e], List.nodup_cons.2 ⟨(fun hb => by have := (h.keys b).1 hb; rw [hs] at this; cases this), h.nd⟩, by rw [List.length_cons, h.len, List.length_append]; simp; omega, fun x hx => by
    rcases List.mem_cons.1 hx with rfl | hx
    · exact hm
    · exact h.mem x hx⟩
open Classical in
theorem BS.le {E : Bs → Bs → Prop} {ms : List Bs} {s : Bs} {k : Nat} {L : Bs → Option Nat} {N : List Bs} {P : Bs → Bs → Prop} {ks : List Bs} {c0 : Nat} (h : BS E ms s k L N P ks c0) : ks.length ≤ ms.length := nodup_le ks ms h.nd h.mem

/-- Between rounds. -/
structure BA (E : Bs → Bs → Prop) (ms : List Bs) (s : Bs) (k : Nat) (L : Bs → Option Nat) (F : List Bs) (ks : List Bs) : Prop where
  bfs : BfsAt E s k L F
  keys : ∀ b, b ∈ ks ↔ (L b).isSome = true
  nd : ks.Nodup
  mem : ∀ b ∈ ks, b ∈ ms
  many : F ≠ [] → k ≤ ks.length
  fok : ∀ b ∈ F, b = s ∨ b ∈ ms
  flen : F.length ≤ ks.length + 1
theorem BA.start (E : Bs → Bs → Prop) (ms : List Bs) (s : Bs) : BA E ms s 0 (fun _ => none) [s] [] :=
  ⟨BfsAt.start E s, fun b => by simp, List.nodup_nil, fun b h => by simp at h, fun _ => Nat.zero_le _, (fun b h => by simp at h; exact .inl h), by simp⟩
theorem BA.enter {E : Bs → Bs → Prop} {ms : List Bs} {s : Bs} {k : Nat} {L : Bs → Option Nat} {F ks : List Bs} (h : BA E ms s k L F ks) : BS E ms s k L [] (fun c b => c ∈ F.take 0 ∧ E c b) ks ks.length :=
  ⟨by have := h.bfs.enter; exact ⟨this.le, this.has, this.new, fun x y p => by have := p.1; simp at this⟩, h.keys, h.nd, by simp, h.mem⟩
theorem BS.leave {E : Bs → Bs → Prop} {ms : List Bs} {s : Bs} {k : Nat} {L : Bs → Option Nat} {N F ks : List Bs} {P : Bs → Bs → Prop} {c0 : Nat} (h : BS E ms s k L N P ks c0) (hF : ∀ b, b ∈ F ↔ AtStep E s k b) (hP : ∀ c b, c ∈ F → E c b → P c b) (hc : k ≤ c0) : BA E ms s (k + 1) L N ks :=
  ⟨h.bfs.leave hF hP, h.keys, h.nd, h.mem, fun hN => by
    have := h.len
    have : 0 < N.length := List.length_pos_iff.2 hN
    omega, (fun b hb => .inr (h.mem b ((h.keys b).2 (by rw [(h.bfs.new b hb).1]; rfl)))), by have := h.len; omega⟩
open Classical in
theorem BA.le {E : Bs → Bs → Prop} {ms : List Bs} {s : Bs} {k : Nat} {L : Bs → Option Nat} {F ks : List Bs} (h : BA E ms s k L F ks) : ks.length ≤ ms.length := nodup_le ks ms h.nd h.mem

/-- An old row of strings, still there. -/
theorem own_grown {w w' : World} {base e size : Nat} {v : Value} {n : Nat} {xs : List Value} {r : Nat} (h : w.ownsRow base e size v n xs) (hg : w.grownBy w' (some r)) (hne : v.ownBlock ≠ some r) : w'.ownsRow base e size v n xs := h.kept hg (.inr hne)
theorem own_same {w w' : World} {base e size : Nat} {v : Value} {n : Nat} {xs : List Value} (h : w.ownsRow base e size v n xs) (hg : w.grownBy w' none) : w'.ownsRow base e size v n xs := h.kept hg (by cases hv : v.ownBlock; exact .inl rfl; exact .inr (by simp))
end Go.Proofs.Ytakjnbdjjeccoaa
