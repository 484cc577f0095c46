/- GSte, GStp, one behind the other. -/
import Derived.Test.YtfbncneeimikcaaGreatJ14
import Derived.Laws.OwnMore
import Derived.Laws.IdiomRangeMap
/- (impl.graph[string]).steps: the least number of edges to each node. -/
namespace Go.Proofs.YtfbncneeimikcaaGreat
open Go.RowKit Go.Maps

/-- What a map of numbers holds. -/
def intM (L : Bs → Option Nat) : Bs → Option Value := fun x => (L x).map fun k => Value.int .i64 (k : Int)
theorem intM_upd (L : Bs → Option Nat) (b : Bs) (k : Nat) : intM (updL L b k) = updK (intM L) b (.int .i64 (k : Int)) := by
  funext x
  unfold intM updL updK
  by_cases h : x = b
  · simp [h]
  · simp [h]
def slLen : Value → Nat
  | .slice _ n _ => n
  | _ => 0
theorem own_slLen {w : World} {base e size : Nat} {v : Value} {n : Nat} {xs : List Value} (h : w.ownsRow base e size v n xs) : slLen v = n ∧ ∃ a cap, v = .slice a n cap := by
  rcases h.2 with ⟨rfl, rfl⟩ | ⟨g, cap, cur, rfl, _⟩
  · exact ⟨rfl, none, 0, rfl⟩
  · exact ⟨rfl, _, _, rfl⟩
theorem own_not {w : World} {base e size : Nat} {v : Value} {n : Nat} {xs : List Value} {b : Nat} {o : Obj} (h : w.ownsRow base e size v n xs) (hb : w.heap[b]? = some o) (hno : ∀ cur, o ≠ .cells cur e (0, 0)) : v.ownBlock ≠ some b := by
  rcases h.2 with ⟨rfl, _⟩ | ⟨g, cap, cur, rfl, _, hg, _⟩
  · simp [Value.ownBlock]
  · intro e1
    simp [Value.ownBlock] at e1
    subst e1
    rw [hg] at hb
    exact hno cur (Option.some.inj hb).symm
theorem KM.own_ne {α : Type} {P : Program} {k : TypeId} {enc : α → Value} {w : World} {b n : Nat} {m : α → Option Value} (hm : KM P k enc w b n m) {base e size : Nat} {v : Value} {c : Nat} {xs : List Value} (h : w.ownsRow base e size v c xs) : v.ownBlock ≠ some b := by
  obtain ⟨D, ⟨es, cl, h1, _⟩, _⟩ := hm
  exact own_not h h1 (fun cur e => by cases e)
theorem KR.own_ne {α : Type} {P : Program} {k : TypeId} {enc : α → Value} {w : World} {b r n cnt : Nat} {m : α → Option Value} {done : α → Prop} (hm : KR P k enc w b r n m done cnt) {base e size : Nat} {v : Value} {c : Nat} {xs : List Value} (h : w.ownsRow base e size v c xs) : v.ownBlock ≠ some r := by
  obtain ⟨D, left, ⟨_, _, _, _, _, _, _, _, _, x5, _⟩, _⟩ := hm
  exact own_not h x5 (fun cur e => by cases e)

/-- Within a round, with the nodes that are known. -/
structure BS (E : Bs → Bs → Prop) (ms : List Bs) (s : Bs) (k : Nat) (L : Bs → Option Nat) (N : List Bs) (P : Bs → Bs → Prop) (ks : List Bs) (c0 : Nat) : Prop where
  bfs : Bfs E s k L N P
  keys : ∀ b, b ∈ ks ↔ (L b).isSome = true
  nd : ks.Nodup
  len : ks.length = c0 + N.length
  mem : ∀ b ∈ ks, b ∈ ms
theorem BS.skip {E : Bs → Bs → Prop} {ms : List Bs} {s : Bs} {k : Nat} {L : Bs → Option Nat} {N : List Bs} {P P' : Bs → Bs → Prop} {ks : List Bs} {c0 : Nat} (h : BS E ms s k L N P ks c0) (c b : Bs) (hs : (L b).isSome = true) (hP : ∀ x y, P' x y → P x y ∨ (x = c ∧ y = b)) : BS E ms s k L N P' ks c0 :=
  ⟨h.bfs.skip c b hs hP, h.keys, h.nd, h.len, h.mem⟩
theorem BS.sub {E : Bs → Bs → Prop} {ms : List Bs} {s : Bs} {k : Nat} {L : Bs → Option Nat} {N : List Bs} {P P' : Bs → Bs → Prop} {ks : List Bs} {c0 : Nat} (h : BS E ms s k L N P ks c0) (hP : ∀ x y, P' x y → P x y) : BS E ms s k L N P' ks c0 :=
  ⟨⟨h.bfs.le, h.bfs.has, h.bfs.new, fun x y p => h.bfs.met x y (hP x y p)⟩, h.keys, h.nd, h.len, h.mem⟩
theorem BS.take {E : Bs → Bs → Prop} {ms : List Bs} {s : Bs} {k : Nat} {L : Bs → Option Nat} {N : List Bs} {P P' : Bs → Bs → Prop} {ks : List Bs} {c0 : Nat} (h : BS E ms s k L N P ks c0) (c b : Bs) (hc : AtStep E s k c) (he : E c b) (hm : b ∈ ms) (hs : L b = none) (hP : ∀ x y, P' x y → P x y ∨ (x = c ∧ y = b)) : BS E ms s k (updL L b (k + 1)) (N ++ [b]) P' (b :: ks) c0 :=
  ⟨h.bfs.take c b hc he hs hP, fun x => by
    rw [List.mem_cons, h.keys x]
    unfold updL
    by_cases e : x = b
    · simp [e]
    · simp [e], List.nodup_cons.2 ⟨(fun hb => by have := (h.keys b).1 hb; rw [hs] at this; cases this), h.nd⟩, by rw [List.length_cons, h.len, List.length_append]; simp; omega, fun x hx => by
    rcases List.mem_cons.1 hx with rfl | hx
    · exact hm
    · exact h.mem x hx⟩
open Classical in
theorem BS.le {E : Bs → Bs → Prop} {ms : List Bs} {s : Bs} {k : Nat} {L : Bs → Option Nat} {N : List Bs} {P : Bs → Bs → Prop} {ks : List Bs} {c0 : Nat} (h : BS E ms s k L N P ks c0) : ks.length ≤ ms.length := nodup_le ks ms h.nd h.mem

/-- Between rounds. -/
structure BA (E : Bs → Bs → Prop) (ms : List Bs) (s : Bs) (k : Nat) (L : Bs → Option Nat) (F : List Bs) (ks : List Bs) : Prop where
  bfs : BfsAt E s k L F
  keys : ∀ b, b ∈ ks ↔ (L b).isSome = true
  nd : ks.Nodup
  mem : ∀ b ∈ ks, b ∈ ms
  many : F ≠ [] → k ≤ ks.length
  fok : ∀ b ∈ F, b = s ∨ b ∈ ms
  flen : F.length ≤ ks.length + 1
theorem BA.start (E : Bs → Bs → Prop) (ms : List Bs) (s : Bs) : BA E ms s 0 (fun _ => none) [s] [] :=
  ⟨BfsAt.start E s, fun b => by simp, List.nodup_nil, fun b h => by simp at h, fun _ => Nat.zero_le _, (fun b h => by simp at h; exact .inl h), by simp⟩
theorem BA.enter {E : Bs → Bs → Prop} {ms : List Bs} {s : Bs} {k : Nat} {L : Bs → Option Nat} {F ks : List Bs} (h : BA E ms s k L F ks) : BS E ms s k L [] (fun c b => c ∈ F.take 0 ∧ E c b) ks ks.length :=
  ⟨by have := h.bfs.enter; exact ⟨this.le, this.has, this.new, fun x y p => by have := p.1; simp at this⟩, h.keys, h.nd, by simp, h.mem⟩
theorem BS.leave {E : Bs → Bs → Prop} {ms : List Bs} {s : Bs} {k : Nat} {L : Bs → Option Nat} {N F ks : List Bs} {P : Bs → Bs → Prop} {c0 : Nat} (h : BS E ms s k L N P ks c0) (hF : ∀ b, b ∈ F ↔ AtStep E s k b) (hP : ∀ c b, c ∈ F → E c b → P c b) (hc : k ≤ c0) : BA E ms s (k + 1) L N ks :=
  ⟨h.bfs.leave hF hP, h.keys, h.nd, h.mem, fun hN => by
    have := h.len
    have : 0 < N.length := List.length_pos_iff.2 hN
    omega, (fun b hb => .inr (h.mem b ((h.keys b).2 (by rw [(h.bfs.new b hb).1]; rfl)))), by have := h.len; omega⟩
open Classical in
theorem BA.le {E : Bs → Bs → Prop} {ms : List Bs} {s : Bs} {k : Nat} {L : Bs → Option Nat} {F ks : List Bs} (h : BA E ms s k L F ks) : ks.length ≤ ms.length := nodup_le ks ms h.nd h.mem

/-- An old row of strings, still there. -/
theorem own_grown {w w' : World} {base e size : Nat} {v : Value} {n : Nat} {xs : List Value} {r : Nat} (h : w.ownsRow base e size v n xs) (hg : w.grownBy w' (some r)) (hne : v.ownBlock ≠ some r) : w'.ownsRow base e size v n xs := h.kept hg (.inr hne)
theorem own_same {w w' : World} {base e size : Nat} {v : Value} {n : Nat} {xs : List Value} (h : w.ownsRow base e size v n xs) (hg : w.grownBy w' none) : w'.ownsRow base e size v n xs := h.kept hg (by cases hv : v.ownBlock; exact .inl rfl; exact .inr (by simp))
end Go.Proofs.YtfbncneeimikcaaGreat
/- (impl.graph[string]).steps: its walk. -/
namespace Go.Proofs.YtfbncneeimikcaaGreat
open Go.RowKit Go.Maps

set_option maxRecDepth 100000 in
set_option maxHeartbeats 4000000 in
theorem steps_any (lo bg n : Nat) (es : List (Bs × Bs)) (tab : Bs → Option Nat) (s : Bs) (w : World) (hG : GM w lo bg n es tab) (hes : es.length ≤ 900) (hsz : s.size ≤ maxLen) :
    Calls Tryz.prog 109 #[.map (some bg), .string s] w fun e w' => (∃ bl L, e = .returned (.map (some bl)) ∧ w.heap.size ≤ bl ∧ KM Tryz.prog 9 Value.string w' bl 1000 (intM L) ∧ ∀ b k, L b = some k ↔ Dist (fun x y => (x, y) ∈ es) s b k) ∧ Below w.heap.size w w' := by
  obtain ⟨E, hE⟩ : ∃ E : Bs → Bs → Prop, E = fun x y => (x, y) ∈ es := ⟨_, rfl⟩
  have EE := hide (show ∀ x y, E x y ↔ (x, y) ∈ es by rw [hE]; exact fun _ _ => Iff.rfl)
  rw [← hE]
  clear hE
  obtain ⟨ms, hms⟩ : ∃ ms : List Bs, ms = es.map (fun p => p.2) := ⟨_, rfl⟩
  have hml : ms.length ≤ 900 := by rw [hms]; simpa using hes
  have ME := hide (show ∀ x y, (x, y) ∈ es → y ∈ ms from fun x y h => by rw [hms]; exact List.mem_map.2 ⟨_, h, rfl⟩)
  have MO := hide (show ∀ b ∈ ms, b.size ≤ maxLen from fun b hb => by
    rw [hms] at hb
    obtain ⟨⟨x, y⟩, h1, rfl⟩ := List.mem_map.1 hb
    exact (hG.ok x y h1).2)
  clear hms hes
  obtain ⟨i0, hi, hz0, hz1, hz2⟩ := info_parts info_str
  obtain ⟨W, hW⟩ : ∃ W, W = w.alloc (.map #[] 0) := ⟨_, rfl⟩
  obtain ⟨W2, hW2⟩ : ∃ W2, W2 = W.alloc (.cells #[.string s] 9) := ⟨_, rfl⟩
  have zW : W.heap.size = w.heap.size + 1 := by rw [hW]; simp
  have g1 : W.grownBy W2 none := by rw [hW2]; exact World.grownBy_alloc _ _ _
  have KL := hide (((show KM Tryz.prog 9 Value.string W w.heap.size 0 (intM fun _ => none) by rw [hW]; exact KM.made _ _ _ w)).kept g1 (by simp))
  have B0 := hide (show Below w.heap.size w W2 by rw [hW2]; exact bAl (by rw [hW]; exact bAl (Below.refl _ _) _) _)
  have OF := hide (show W2.ownsRow w.heap.size 9 1 (.slice (some ⟨w.heap.size + 1, 0, none⟩) 1 1) [s].length ([s].map Value.string) by rw [hW2, ← zW]; exact World.ownsRow_lit W #[.string s] 1 (by omega) (by unfold maxLen; omega) rfl)
  have HW := hide (show (w.alloc (.map #[] 0)).alloc (.cells #[.string s] 9) = W2 by rw [hW2, hW])
  have HG := hide hG
  have HZ := hide hsz
  have hmm := @run_makeMap Tryz.prog
  clear hG hW hW2 g1 zW hsz
  go_enter Tryz.func109, Tryz.ntmps109
  go_wp2_with fail
  rw [unhide HW]
  clear HW hmm
  go_loopw [6, 7] (fun f m wr => ∃ (k : Nat) (L : Bs → Option Nat) (F ks : List Bs), m = .int .i64 ((k : Int) + 1) ∧ Hid (wr.ownsRow w.heap.size 9 1 f F.length (F.map Value.string)) ∧ Hid (KM Tryz.prog 9 Value.string wr w.heap.size ks.length (intM L)) ∧ Hid (BA E ms s k L F ks) ∧ Hid (Below w.heap.size w wr)) (fun f m _ => if slLen f = 0 then 0 else 1000 - (Go.RowKit.intOf m).toNat)
  case atStart => exact ⟨0, _, [s], [], rfl, OF, KL, hide (BA.start E ms s), B0⟩
  case round =>
    clear OF KL B0
    obtain ⟨k, L, F, ks, rfl, hF, hL, hA, hB⟩ := hrel
    have hks := (unhide hA).le
    obtain ⟨hsl, a1, cap1, rfl⟩ := own_slLen (unhide hF)
    by_cases hlen : F.length = 0
    · have eF : F = [] := List.length_eq_zero_iff.1 hlen
      subst eF
      have FIN := hide (show w.heap.size ≤ w.heap.size ∧ KM Tryz.prog 9 Value.string wr w.heap.size 1000 (intM L) ∧ ∀ b q, L b = some q ↔ Dist E s b q from ⟨Nat.le_refl _, (unhide hL).more (by omega), by
        cases k with
        | zero =>
          have := ((unhide hA).bfs.front s).2 rfl
          simp at this
        | succ k => exact (unhide hA).bfs.stop⟩)
      clear hF hL hA hsl
      go_wp2_with fail
      go_ret
      exact ⟨⟨_, L, rfl, unhide FIN⟩, unhide hB⟩
    · have hk1 : k ≤ ks.length := (unhide hA).many (fun e => hlen (by rw [e]; rfl))
      have hFL : F.length ≤ 1000 := by have := (unhide hA).flen; omega
      have FR := hide (unhide hA).bfs.front
      have FO := hide (unhide hA).fok
      have hpos : 0 < F.length := by omega
      have hpd : decide (0 < F.length) = true := decide_eq_true hpos
      have S0 := hide (unhide hA).enter
      obtain ⟨c0, hc0⟩ : ∃ c, c = ks.length := ⟨_, rfl⟩
      rw [← hc0] at S0 hk1
      clear hA hc0
      go_wp2_with fail
      go_loopw [8, 24] (fun v i wr => ∃ (j : Nat) (L : Bs → Option Nat) (N ks : List Bs), j ≤ F.length ∧ i = .int .i64 j ∧ Hid (wr.ownsRow w.heap.size 9 1 (.slice a1 F.length cap1) F.length (F.map Value.string)) ∧ Hid (wr.ownsRow w.heap.size 9 1 v N.length (N.map Value.string)) ∧ Hid (DJ (.slice a1 F.length cap1) v) ∧ Hid (KM Tryz.prog 9 Value.string wr w.heap.size ks.length (intM L)) ∧ Hid (BS E ms s k L N (fun c b => c ∈ F.take j ∧ E c b) ks c0) ∧ Hid (Below w.heap.size w wr)) (fun _ i _ => F.length - (Go.RowKit.intOf i).toNat)
      case atStart => exact ⟨0, L, [], ks, Nat.zero_le _, rfl, hF, hide (World.ownsRow_nil _ _ _ _), hide (fun g h _ h2 => by simp [Value.ownBlock] at h2), hL, S0, hB⟩
      case round =>
        clear hF hL hB S0 hks
        obtain ⟨j, L, N, ks, hj, rfl, hF, hN, hD, hL, hS, hB⟩ := hrel
        have hks := (unhide hS).le
        have hNl := (unhide hS).len
        by_cases hlt : j < F.length
        · obtain ⟨a1', cap1', e1, hsl⟩ := own_strs (unhide hF)
          cases e1
          obtain ⟨bF, off, rfl, hrow⟩ := hsl.at (k := j) hlt
          have c0' := hrow.c j hlt
          have zF := hrow.z
          have hmem := List.getElem_mem hlt
          have HC := hide ((unhide FR F[j]).1 hmem)
          have okc : (F[j]).size ≤ maxLen := by
            rcases unhide FO _ hmem with e | e
            · rw [e]; exact unhide HZ
            · exact unhide MO _ e
          have eT := hide (show ∀ x, x ∈ F.take (j + 1) ↔ x ∈ F.take j ∨ x = F[j] from fun x => by rw [List.take_succ_eq_append_getElem hlt, List.mem_append, List.mem_singleton])
          clear hrow hsl hmem
          generalize F[j] = c at c0' HC okc eT
          have HT := hide ((unhide HG).keepB (unhide hB) (Nat.le_refl _)).top
          cases hT : tab c with
          | none =>
            have e1 := hide (show (topM tab c).getD (.map none) = Value.map none by simp [topM, hT])
            have NE := hide (show ∀ y, ¬ E c y from fun y h => by have := ((unhide HG).has c).2 ⟨y, (unhide EE c y).1 h⟩; rw [hT] at this; cases this)
            have hrg := run_range_nilMap (P := Tryz.prog) wr 78 9 76 Tryz.underlying78
            have hnx : ∀ ty, (Instr.next (.pointer (some ⟨wr.heap.size, 0, none⟩)) false ty).run Tryz.prog (wr.alloc (.mapIter none 0 #[] 0)) = _ := fun ty => run_next_nilMap wr ty 0 0 #[]
            have g2 := World.grownBy_alloc wr (.mapIter none 0 #[] 0) none
            have F2 := hide (own_same (unhide hF) g2)
            have N2 := hide (own_same (unhide hN) g2)
            have L2 := hide ((unhide hL).kept g2 (by simp))
            have B2 := hide (bAl (unhide hB) (.mapIter none 0 #[] 0))
            have S2 := hide (show BS E ms s k L N (fun c b => c ∈ F.take (j + 1) ∧ E c b) ks c0 from (unhide hS).sub (fun x y h => by
              rcases (unhide eT x).1 h.1 with h1 | rfl
              · exact ⟨h1, h.2⟩
              · exact absurd h.2 (unhide NE y)))
            clear hT g2 hF hN hL hB hS NE eT HC
            go_wp2_with (at_lookup; refine wpList_get_km _ kStr rfl _ _ _ rfl _ Tryz.underlying157 (zeroSet _) bg n _ rfl (unhide HT) c rfl okc _ (unhide e1) ?_)
            obtain ⟨W3, hW3⟩ : ∃ W3, W3 = wr.alloc (.mapIter none 0 #[] 0) := ⟨_, rfl⟩
            rw [← hW3] at hnx F2 N2 L2 B2 ⊢
            clear hrg hW3
            go_loopw [8] (fun v wx => v = u8 ∧ wx = W3) (fun _ _ => 0)
            case atStart => exact ⟨rfl, rfl⟩
            case round =>
              obtain ⟨rfl, rfl⟩ := hrel
              go_wp2_with fail
              exact ⟨⟨j + 1, L, N, ks, by omega, by go_num, F2, N2, hD, L2, S2, B2⟩, by simp [Go.RowKit.intOf]; omega⟩
          | some b =>
            have e1 := hide (show (topM tab c).getD (.map none) = Value.map (some b) by simp [topM, hT])
            have hkid := (unhide HG).kid c b hT
            have zb := hkid.lt
            have HK := hide (hkid.keepB (unhide hB) zb)
            have S2 := hide (show BS E ms s k L N (fun c' y => (c' ∈ F.take j ∧ E c' y) ∨ (c' = c ∧ False ∧ E c' y)) ks c0 from (unhide hS).sub (fun x y h => h.elim id (fun h => h.2.1.elim)))
            clear hT hkid hS
            go_wp2_with (first
              | (at_lookup; refine wpList_get_km _ kStr rfl _ _ _ rfl _ Tryz.underlying157 (zeroSet _) bg n _ rfl (unhide HT) c rfl okc _ (unhide e1) ?_)
              | (at_range; refine wpList_range_km _ kStr rfl _ _ rfl _ Tryz.underlying78 b n _ rfl (unhide HK) ?_; intro w2 cnt2 hr2 hg2 hs2)
              | go_in)
            go_frame
            have F2 := hide (own_same (unhide hF) hg2)
            have N2 := hide (own_same (unhide hN) hg2)
            have L2 := hide ((unhide hL).kept hg2 (by simp))
            have B2 := hide ((unhide hB).trans (Below.grown (Below.refl _ _) hg2 (unhide hB).size (fun _ h => by cases h)))
            obtain ⟨r2, hr2e⟩ : ∃ r, r = wr.heap.size := ⟨_, rfl⟩
            have hrw : w.heap.size ≤ r2 := by rw [hr2e]; exact (unhide hB).size
            have hrb : w.heap.size < r2 := by rw [hr2e]; exact (unhide hL).lt
            have FB := hide (fun g h => Nat.lt_of_lt_of_le ((unhide hF).lt g h).2 (Nat.le_of_eq hr2e.symm))
            rw [← hr2e] at hr2 ⊢
            clear hg2 hs2 hF hN hL hB HK HT hr2e hks hNl c0'
            go_loopw [8] (fun v wx => ∃ (done : Bs → Prop) (cnt : Nat) (L : Bs → Option Nat) (N ks : List Bs), KR Tryz.prog 9 Value.string wx b r2 n (setF es c) done cnt ∧ Hid (wx.ownsRow w.heap.size 9 1 (.slice (some ⟨bF, off, none⟩) F.length cap1) F.length (F.map Value.string)) ∧ Hid (wx.ownsRow w.heap.size 9 1 v N.length (N.map Value.string)) ∧ Hid (DJ (.slice (some ⟨bF, off, none⟩) F.length cap1) v) ∧ Hid (KM Tryz.prog 9 Value.string wx w.heap.size ks.length (intM L)) ∧ Hid (BS E ms s k L N (fun c' y => (c' ∈ F.take j ∧ E c' y) ∨ (c' = c ∧ done y ∧ E c' y)) ks c0) ∧ Hid (Below w.heap.size w wx)) (fun _ wx => wx.rangeLeft b r2)
            case atStart => exact ⟨_, _, L, N, ks, hr2, F2, N2, hD, L2, S2, B2⟩
            case round =>
              clear hr2 F2 N2 hD L2 S2 B2
              obtain ⟨done, cnt, L, N, ks, hr, hF, hN, hD, hL, hS, hB⟩ := hrel
              have hks := (unhide hS).le
              have hNl := (unhide hS).len
              go_wp2_with (first
                | (at_next; refine wpList_next_km _ kStr rfl _ rfl b r2 n _ _ _ rfl hr ?_ ?_)
                | go_in)
              · intro hd
                have S3 := hide (show BS E ms s k L N (fun c b => c ∈ F.take (j + 1) ∧ E c b) ks c0 from (unhide hS).sub (fun x y h => by
                  rcases (unhide eT x).1 h.1 with h1 | rfl
                  · exact .inl ⟨h1, h.2⟩
                  · have hx := (unhide EE x y).1 h.2
                    exact .inr ⟨rfl, hd y ((unhide HG).ok _ _ hx).2 (setF_isSome hx), h.2⟩))
                clear hd hr hS eT
                go_wp2_with fail
                exact ⟨⟨j + 1, L, N, ks, by omega, by go_num, hF, hN, hD, hL, S3, hB⟩, by simp [Go.RowKit.intOf]; omega⟩
              · intro y v w3 cnt3 hy hM hnd hr3 hlt3 hg3 hs3 hen
                obtain ⟨hxy, rfl⟩ := setF_some hM
                have F3 := hide (own_grown (unhide hF) hg3 (hr.own_ne (unhide hF)))
                have N3 := hide (own_grown (unhide hN) hg3 (hr.own_ne (unhide hN)))
                have L3 := hide ((unhide hL).kept hg3 (fun e => by cases e; omega))
                have B3 := hide ((unhide hB).grown hg3 (unhide hB).size (fun q h => by cases h; exact hrw))
                have hcl := hide hr.left
                have EC := hide ((unhide EE c y).2 hxy)
                have MY := hide (unhide ME c y hxy)
                have HY := hide hy
                have P3 : Hid (∀ x z, ((x ∈ F.take j ∧ E x z) ∨ (x = c ∧ (done z ∨ z = y) ∧ E x z)) → ((x ∈ F.take j ∧ E x z) ∨ (x = c ∧ done z ∧ E x z)) ∨ (x = c ∧ z = y)) := hide (by
                  rintro x z (h | ⟨h1, h2 | h2, h3⟩)
                  · exact .inl (.inl h)
                  · exact .inl (.inr ⟨h1, h2, h3⟩)
                  · exact .inr ⟨h1, h2⟩)
                clear hM hnd hg3 hs3 hxy hr hF hN hL hB hy
                cases hL3 : L y with
                | some q =>
                  have el := hide (show (intM L y).getD (.int .i64 0) = .int .i64 (q : Int) by simp [intM, hL3])
                  have er := hide (show (intM L y).isSome = true by simp [intM, hL3])
                  have S4 := hide ((unhide hS).skip c y (by rw [hL3]; rfl) (unhide P3))
                  clear hS hL3
                  go_wp2_with (at_lookup; refine wpList_look_km _ kStr rfl _ _ _ rfl _ Tryz.underlying130 (zeroInt _) w.heap.size ks.length _ rfl (unhide L3) y rfl (unhide HY) _ _ (unhide el) (unhide er) ?_)
                  exact ⟨⟨_, cnt3, L, N, ks, hr3, F3, N3, hD, L3, S4, B3⟩, by rw [hr3.left, unhide hcl]; exact hlt3⟩
                | none =>
                  have el := hide (show (intM L y).getD (.int .i64 0) = .int .i64 0 by simp [intM, hL3])
                  have er := hide (show (intM L y).isSome = false by simp [intM, hL3])
                  have S4 := hide ((unhide hS).take c y (unhide HC) (unhide EC) (unhide MY) hL3 (unhide P3))
                  have hkk := (unhide S4).le
                  rw [List.length_cons] at hkk
                  have eL := hide (show updK (intM L) y (.int .i64 ((k : Int) + 1)) = intM (updL L y (k + 1)) by rw [intM_upd]; rfl)
                  clear hS hL3
                  go_wp2_with (first
                    | (at_lookup; refine wpList_look_km _ kStr rfl _ _ _ rfl _ Tryz.underlying130 (zeroInt _) w.heap.size ks.length _ rfl (unhide L3) y rfl (unhide HY) _ _ (unhide el) (unhide er) ?_)
                    | (at_mapUpdate; (refine wpList_put_km _ kStr rfl _ _ _ _ rfl _ Tryz.underlying130 w.heap.size ks.length _ rfl (unhide L3) (by unfold maxLen; omega) y (.int .i64 ((k : Int) + 1)) rfl rfl (unhide HY) ?_; intro w4 h41 h42 h43; rw [unhide eL] at h41; have L4 := hide h41; have F4 := hide (own_grown (unhide F3) h42 ((unhide L3).own_ne (unhide F3))); have N4 := hide (own_grown (unhide N3) h42 ((unhide L3).own_ne (unhide N3))); have B4 := hide ((unhide B3).grown h42 (unhide B3).size (fun q h => by cases h; exact Nat.le_refl _)); have R4 := hide (hr3.kept h42 (fun e => by cases e; omega) (fun e => by cases e; omega)); clear h41 h42 h43))
                    | (at_builtin; refine wpList_append_own_at _ rfl _ _ 24 rfl w.heap.size 9 i0 _ 1 16 Tryz.underlying24 hi hz0 hz1 hz2 rfl (by decide) _ _ _ rfl ((unhide N4).alloc _) ⟨_, 0, none⟩ 1 1 [.string y] rfl rfl (cell_one_at _ _ rfl _ _) (fun x hx => by simp at hx; subst hx; rfl) (by unfold maxLen; omega) (by omega) (by have := (unhide B4).size; simp; omega) ?_; intro v5 w5 hown5 hgrow5 _ hat5; have N5 := hide hown5; have G5 := hide hgrow5; have A5 := hide hat5; clear hown5 hgrow5 hat5))
                  have zy := (unhide L4).lt
                  have F5 := hide (show w5.ownsRow w.heap.size 9 1 (.slice (some ⟨bF, off, none⟩) F.length cap1) F.length (F.map Value.string) from ((unhide F4).alloc _).kept (unhide G5) (unhide hD).ne')
                  have D5 := hide (show DJ (.slice (some ⟨bF, off, none⟩) F.length cap1) v5 from fun g h h1 h2 => by
                    rcases unhide A5 with e | e
                    · exact unhide hD g h h1 (e.symm.trans h2)
                    · rw [e] at h2
                      have := ((unhide F4).lt g h1).2
                      simp at h2
                      omega)
                  have L5 := hide (((unhide L4).kept (World.grownBy_alloc _ (.cells #[.string y] 9) none) (by simp)).kept (unhide G5) (fun e => (unhide L4).own_ne (unhide N4) e.symm))
                  have R5 := ((unhide R4).kept (World.grownBy_alloc _ (.cells #[.string y] 9) none) (by simp) (by simp)).kept (unhide G5) (fun e => by have h1 := ((unhide N4).lt b e.symm).1; omega) (fun e => (unhide R4).own_ne (unhide N4) e.symm)
                  have B5 := hide (below_append (unhide B4) (Nat.le_refl _) (unhide N4) (unhide G5))
                  clear N4 F4 B4 R4 L4 G5 A5
                  exact ⟨⟨_, cnt3, updL L y (k + 1), N ++ [y], y :: ks, R5, F5, hide (by rw [List.length_append, List.map_append]; exact unhide N5), D5, hide (by rw [List.length_cons]; exact unhide L5), S4, B5⟩, by rw [R5.left, unhide hcl]; exact hlt3⟩
        · have ej : j = F.length := by omega
          subst ej
          have A2 := hide ((unhide hS).leave (unhide FR) (fun c b h1 h2 => ⟨by rw [List.take_length]; exact h1, h2⟩) hk1)
          have hm9 := (unhide A2).le
          have hmany := (unhide A2).many
          have hsl2 := (own_slLen (unhide hN)).1
          clear hS
          go_wp2_with fail
          refine ⟨⟨k + 1, L, N, ks, by go_num, hN, hL, A2, hB⟩, ?_⟩
          rw [hsl2]
          have e3 : slLen (Value.slice a1 F.length cap1) = F.length := rfl
          rw [e3, if_neg hlen]
          simp only [Go.RowKit.intOf]
          split
          · omega
          · next h =>
            have := hmany (fun e => h (by rw [e]; rfl))
            omega
end Go.Proofs.YtfbncneeimikcaaGreat
