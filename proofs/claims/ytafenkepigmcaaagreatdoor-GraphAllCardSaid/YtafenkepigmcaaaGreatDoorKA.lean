/- graph: a map's keys, each once; collected; sorted (131). -/
import Derived.Test.YtafenkepigmcaaaGreatDoorSF
import Derived.Test.YtafenkepigmcaaaGreatDoorMB
import Derived.RangeFuncNested
import Derived.RangeFuncBound
import Derived.RangeFuncCalls
import Derived.RangeFuncLeaves
import Derived.RangeFuncBox
import Derived.RangeFuncWrites
import Derived.Shelf.Abstract
import Derived.Shelf.RegionOpen
import Derived.WalkKit
import Derived.OwnWalkIn
import Derived.TacticsInMore
import Derived.LoopNIn
import Derived.LoopIn
import Derived.Sort.MapsRangeIn
namespace Go.Proofs.YtafenkepigmcaaaGreatDoor.Gr.KA
open Go Go.RowKit Go.Stop Go.Shelf YtafenkepigmcaaaGreatDoor.So
attribute [local go_sem] Oper.semAt_some
theorem info_parts {P : Program} {t : TypeId} {z : Value} {s b : Nat} (h : (P.info? t).map (fun i => (i.zero, i.size, i.bytes)) = some (some z, s, b)) : ∃ i, P.info? t = some i ∧ i.zero = some z ∧ i.size = s ∧ i.bytes = b := by
  obtain ⟨i, h1, h2⟩ := Option.map_eq_some_iff.1 h
  simp only [Prod.mk.injEq] at h2
  exact ⟨i, h1, h2.1, h2.2.1, h2.2.2⟩
theorem law23 : Maps.Keyed Tryz.prog 23 := Maps.int_keyed Tryz.underlying23
def u32s (L : List Int) : List Value := L.map fun x => .int .u32 x
theorem u32s_app (A B : List Int) : u32s (A ++ B) = u32s A ++ u32s B := by simp [u32s]
theorem u32s_len (A : List Int) : (u32s A).length = A.length := by simp [u32s]
theorem cell1 {w : World} {p : Nat} {v : Value} {t : TypeId} (h : w.heap[p]? = some (.cells #[v] t (0, 0))) : w.cell? ⟨p, 0, none⟩ = some v := by simp [World.cell?, h]
theorem own_slice {w : World} {B : Nat} {v : Value} {n : Nat} {xs : List Value} (h : w.ownsRow B 23 1 v n xs) : ∃ ao cap, v = .slice ao n cap ∧ n ≤ cap ∧ ∀ (i : Nat) (x : Value), xs[i]? = some x → ∃ g, ao = some ⟨g, 0, none⟩ ∧ g < w.heap.size ∧ w.cell? ⟨g, i, none⟩ = some x := by
  rcases h.2 with ⟨rfl, h0⟩ | ⟨g, cap, cur, rfl, h1, h2, h3, h4, h5, h6⟩
  · refine ⟨none, 0, by rw [h0], by omega, fun i x hx => ?_⟩
    have := h.1
    rw [h0] at this
    have : xs = [] := List.eq_nil_of_length_eq_zero (by simpa using this)
    subst this
    simp at hx
  · refine ⟨_, cap, rfl, h3, fun i x hx => ⟨g, rfl, (Array.getElem?_eq_some_iff.1 h2).1, ?_⟩⟩
    rw [← h6, List.getElem?_take] at hx
    split at hx
    · simp only [World.cell?, h2]
      simpa using hx
    · cases hx
theorem info23 : (Tryz.prog.info? 23).map (fun i => (i.zero, i.size, i.bytes)) = some (some (.int .u32 0), 1, 4) := by kernel_rfl
theorem one_u32 (x : Int) : ∀ u ∈ ([.int .u32 x] : List Value), u.oneCell' = true := by
  intro u hu; simp at hu; subst hu; rfl
theorem new1 (x : Int) (w : World) (T : TypeId) : ∀ j u, ([.int .u32 x] : List Value)[j]? = some u → (w.alloc (.cells #[.int .u32 x] T)).cell? ((⟨w.heap.size, 0, none⟩ : Addr).add j) = some u := by
  intro j u h
  match j, h with
  | 0, h => simp at h; subst h; simp [Addr.add, go_sem]
  | j + 1, h => simp at h
theorem own_base {w : World} {B C : Nat} {v : Value} {n : Nat} {xs : List Value} (h : w.ownsRow C 23 1 v n xs) (hB : B ≤ C) : w.ownsRow B 23 1 v n xs := by
  refine ⟨h.1, ?_⟩
  rcases h.2 with h0 | ⟨g, cap, cur, e1, e2, e3⟩
  · exact .inl h0
  · exact .inr ⟨g, cap, cur, e1, Nat.le_trans hB e2, e3⟩
def KeyIs (D0 : DataW Value) (left : Lit → Bool) (ss : List Int) : Prop := ss.Nodup ∧ ∀ x, In32 x → (x ∈ ss ↔ (Maps.has D0 (.int .u32 x) = true ∧ left (.int .u32 x) = false))
def AllKeys (D0 : DataW Value) (ss : List Int) : Prop := ss.Nodup ∧ (∀ x ∈ ss, In32 x) ∧ (∀ x, In32 x → (x ∈ ss ↔ Maps.has D0 (.int .u32 x) = true)) ∧ ss.length ≤ Maps.size D0
def encV (x : Int) : Array Value := #[.int .u32 x]
theorem same_u32 (x y : Int) : (Lit.int .u32 x).sameKey (.int .u32 y) = decide (x = y) := by
  by_cases h : x = y
  · subst h; simp [Lit.sameKey]
  · simp [Lit.sameKey, h]
theorem not_has_at (D : DataW Value) {k : Lit} (h : Maps.has D k = false) (z : DataW Value) : D.atKey k z = z := by
  cases D <;> try rfl
  rename_i es
  simp only [Maps.has, List.any_eq_false] at h
  unfold DataW.atKey
  simp only
  rw [List.find?_eq_none.2 (fun p hp => by simpa using h p hp)]
theorem KeyIs.start (D0 : DataW Value) : KeyIs D0 (Maps.has D0) [] := ⟨List.nodup_nil, fun x _ => by simp⟩
theorem KeyIs.step {D0 : DataW Value} {left : Lit → Bool} {ss : List Int} {x : Int} (h : KeyIs D0 left ss) (hw : In32 x) (hl : left (.int .u32 x) = true) (hh : Maps.has D0 (.int .u32 x) = true) : KeyIs D0 (fun z => left z && !z.sameKey (.int .u32 x)) (ss ++ [x]) := by
  refine ⟨?_, fun y hy => ?_⟩
  · rw [List.nodup_append]
    refine ⟨h.1, by simp, fun z hz y hy => ?_⟩
    simp only [List.mem_singleton] at hy
    subst hy
    rintro rfl
    have := ((h.2 z hw).1 hz).2
    rw [hl] at this; cases this
  · rw [List.mem_append, List.mem_singleton, h.2 y hy]
    simp only [same_u32]
    by_cases e : y = x
    · subst e; simp [hh]
    · simp [e]
set_option maxRecDepth 100000 in
set_option maxHeartbeats 2000000 in
theorem keys_in (n : Nat) (hn : 1 ≤ n) (l Bm b nn : Nat) (D0 : DataW Value) (J Jx : List Int → World → Prop)
    (hY : ∀ pre x W, J pre W → pre.length < Maps.size D0 → YieldAt Fence.wide (n - 1) Tryz.prog l (encV x) W fun e W' =>
      (e = .returned (.bool true) ∧ J (pre ++ [x]) W' ∧ KeepsWalks W W') ∨ (e = .returned (.bool false) ∧ Jx (pre ++ [x]) W'))
    (W : World) (hJ : AbidesFrom W.heap.size J) (hm : W.cell? ⟨Bm, 0, none⟩ = some (.map (some b))) (hown : W.ownsMap Tryz.prog 23 tok b nn D0) (h0 : J [] W) :
    CallsIn Fence.wide n Tryz.prog 101 #[.func (.yield l) #[] #[], .pointer (some ⟨Bm, 0, none⟩)] W fun e W' => (∃ v, e = .returned v) ∧
      ((∃ ss, AllKeys D0 ss ∧ J ss W') ∨ (∃ pre, True ∧ Jx pre W')) := by
  have HJ := Lib.hid hJ
  have HY := Lib.hid hY
  clear hJ hY
  refine callsIn_of_wp Tryz.func101 rfl trivial ?_ rfl
  simp only [Tryz.ntmps101, List.size_toArray, List.length_cons, List.length_nil, Nat.reduceAdd, Nat.reduceSub, Array.replicate_succ, Array.replicate_zero, List.push_toArray, List.append_toArray, List.nil_append, List.cons_append]
  gi_wp2_with (first
    | (gi_at_range; refine wpListIn_range_own _ rfl _ 131 rfl 23 47 law23 Tryz.underlying131 tok b nn _ rfl hown ?_; intro w0 hrg0 hg0 hs0)
    | gi_in)
  go_frame
  gi_loopw [3] (fun _ wr => ∃ (left : Lit → Bool) (cnt : Nat) (ss : List Int), wr.ranges Tryz.prog 23 tok b W.heap.size nn D0 left cnt ∧ ss.length + cnt ≤ Maps.size D0 ∧ Hid (KeyIs D0 left ss ∧ (∀ x ∈ ss, In32 x)) ∧ J ss wr)
    (fun _ wr => wr.rangeLeft b W.heap.size)
  case atStart =>
    exact ⟨_, _, [], hrg0, by simp, Lib.hid ⟨KeyIs.start D0, by simp⟩, HJ.out [] W w0 none h0 hg0 (fun r e => by cases e)⟩
  case round =>
    obtain ⟨left, cnt, ss, hrg, hcs, HC, hJs⟩ := hrel
    gi_wp2_with (first
      | (gi_at_next; refine wpListIn_next_ranges _ rfl _ rfl 23 law23 tok (Value.int .u32) id (fun key kl hk => by obtain ⟨x, hx, _⟩ := Maps.keyOf_int_inv Tryz.underlying23 hk; exact ⟨x, hx⟩) (fun v _ _ => ⟨v, rfl⟩) b W.heap.size nn _ _ _ rfl hrg ?_ ?_)
      | gi_in)
    · intro hc0 hl0
      gi_wp2
      go_end0
      exact ⟨⟨_, rfl⟩, .inl ⟨ss, ⟨HC.out.1.1, HC.out.2, fun x hx => by rw [HC.out.1.2 x hx, hl0]; simp, by omega⟩, hJs⟩⟩
    · intro x c kl yd yp w2 cnt2 hkey hlk hv hat hrg2 hlt hg2 hs2 hen
      obtain ⟨x', ex, rfl, hwx⟩ := Maps.keyOf_int_inv Tryz.underlying23 hkey
      obtain rfl : x = x' := by injection ex
      have hJ2 : J ss w2 := HJ.out ss wr w2 (some W.heap.size) hJs hg2 (fun r e => by cases e; exact ⟨Nat.le_refl _, hrg.iter_walk⟩)
      obtain ⟨fn, tmps, assign, body, hy, hR⟩ := HY.out ss x w2 hJ2 (by omega)
      have hh : Maps.has D0 (.int .u32 x) = true := by
        cases hq : Maps.has D0 (.int .u32 x) with
        | true => rfl
        | false =>
          have h1 := hat (.held undef)
          have h2 := hat (.lit (.bool true))
          rw [not_has_at D0 hq] at h1 h2
          rw [← h1] at h2
          cases h2
      have hC2 := Lib.hid (And.intro (HC.out.1.step hwx hlk hh) (show ∀ y ∈ ss ++ [x], In32 y from fun y hy => by rw [List.mem_append, List.mem_singleton] at hy; rcases hy with hy | rfl; (exact HC.out.2 y hy); (exact hwx)))
      clear hs2
      simp only [encV] at *
      gi_wp2
      refine hR.mono ?_
      rintro e W3 (⟨rfl, hJ3, hk3⟩ | ⟨rfl, hJx3⟩)
      · gi_wp2
        have hrg3 := hrg2.of_walks hk3
        go_roundw
        case rel => exact ⟨_, cnt2, ss ++ [x], hrg3, by simp; omega, hC2, hJ3⟩
        case measure => rw [hrg3.left_eq, hrg.left_eq]; exact hlt
      · gi_wp2
        refine bodyPost_ret (results_none rfl _ _ _) rfl ?_
        exact ⟨⟨_, rfl⟩, .inr ⟨ss ++ [x], trivial, hJx3⟩⟩
theorem free1 {w : World} {b i : Nat} {cs : Array Value} {t : TypeId} (h : w.heap[b]? = some (.cells cs t (0, 0))) : w.frozen? ⟨b, i, none⟩ = false := by
  simp [World.frozen?, h]
/-- Between two rounds: the box holds a list of the call's own with what has come. -/
def ApI (w : World) (pre : List Int) (W : World) : Prop :=
  ∃ v, W.heap[w.heap.size]? = some (.cells #[v] 37 (0, 0)) ∧ W.ownsRow (w.heap.size + 1) 23 1 v pre.length (u32s pre) ∧ Below w.heap.size w W ∧ w.heap.size + 1 ≤ W.heap.size
theorem own_obj {W : World} {B n : Nat} {v : Value} {xs : List Value} (h : W.ownsRow B 23 1 v n xs) {g : Nat} (hg : v.ownBlock = some g) : B ≤ g ∧ ∃ o : Obj, W.heap[g]? = some o ∧ o.isCells = true ∧ o.isWalk = false := by
  rcases h.2 with ⟨e, _⟩ | ⟨g', cap, cur, e, h1, h2, _⟩
  · subst e; simp [Value.ownBlock] at hg
  · subst e
    simp [Value.ownBlock] at hg
    subst hg
    exact ⟨h1, _, h2, rfl, rfl⟩
theorem apI_own (w : World) : OwnFrom (w.heap.size + 1) (ApI w) := by
  intro pre A A' row ⟨v, h1, h2, h3, h4⟩ hg hr
  refine ⟨v, (hg.block _ (Array.getElem?_eq_some_iff.1 h1).1 (fun e => by have := (hr _ e.symm).1; omega)).trans h1, own_on h2 (fun g e => hg.block g (World.ownsRow.lt h2 g e).2 (fun e' => ?_)), h3.grown hg (by omega) (fun k e => by have := (hr k e).1; omega), Nat.le_trans h4 hg.size⟩
  obtain ⟨_, o, ho, hc⟩ := hr g e'.symm
  obtain ⟨_, o', ho', hc', _⟩ := own_obj h2 e
  rw [ho] at ho'
  cases ho'
  rw [hc] at hc'
  cases hc'
def frA (sv : Value) (b : Nat) (x : Value) : Array Value := #[.slice none 0 0, sv, .pointer (some ⟨b, 0, none⟩), undef, .slice none 0 0, x, sv, x, undef, undef, undef, undef, undef]
theorem keys_stops (n : Nat) (hn : 1 ≤ n) (Bm b nn : Nat) (D0 : DataW Value) (w : World) (hBm : Bm < w.heap.size) (hm : w.cell? ⟨Bm, 0, none⟩ = some (.map (some b))) (hown : w.ownsMap Tryz.prog 23 tok b nn D0) :
    SeqStopsK Fence.wide n Tryz.prog 101 #[.pointer (some ⟨Bm, 0, none⟩)] encV KeepsWalks (AllKeys D0) (fun _ => True) (Maps.size D0) w := fun l J Jx W hW hJ _ hY h0 => by
  have hown' : W.ownsMap Tryz.prog 23 tok b nn D0 := by
    have hbl := hown.lt
    obtain ⟨es, clock, hb, Ft, hs, hD⟩ := hown
    exact ⟨es, clock, (hW.block b hbl).trans hb, Ft, hs, hD⟩
  exact keys_in n hn l Bm b nn D0 J Jx hY W hJ ((hW.cell (p := ⟨Bm, 0, none⟩) hBm).trans hm) hown' h0
theorem keysK_b : ∀ (W : World) (l : Nat) (o o' : Obj), W.heap[l]? = some o → o.isCells = false → o.isWalk = false → KeepsWalks W (W.putObj l o') := fun _ _ _ o' h _ hw => KeepsWalks.putObj o' h hw
set_option maxRecDepth 100000 in
set_option maxHeartbeats 2000000 in
theorem app_any (Bm b nn : Nat) (D0 : DataW Value) (w : World) (hBm : Bm < w.heap.size) (hm : w.cell? ⟨Bm, 0, none⟩ = some (.map (some b))) (hown : w.ownsMap Tryz.prog 23 tok b nn D0) (hnn : nn ≤ 1000000000000) :
    Calls Tryz.prog 127 #[.slice none 0 0, .func (.func 101) #[] #[.pointer (some ⟨Bm, 0, none⟩)]] w fun e w' => ∃ v ss, e = .returned v ∧ AllKeys D0 ss ∧ w'.ownsRow w.heap.size 23 1 v ss.length (u32s ss) ∧ Below w.heap.size w w' := by
  obtain ⟨i0, hi0, hz0, hz1, hz2⟩ := info_parts info23
  have HI := Lib.hid (And.intro hi0 (And.intro hz0 (And.intro hz1 hz2)))
  clear hi0 hz0 hz1 hz2
  have hb0 : Below w.heap.size w (w.alloc (.cells #[.slice none 0 0] 37)) := (Below.refl _ w).alloc (Nat.le_refl _) _
  have hsz : Maps.size D0 ≤ 1000000000000 := Nat.le_trans hown.size_le hnn
  have hst := keys_stops 2 (by decide) Bm b nn D0 w hBm hm hown
  have hin : ApI w [] (w.alloc (.cells #[.slice none 0 0] 37)) := ⟨.slice none 0 0, heap_alloc_new w _, World.ownsRow_nil _ _ _ _, hb0, by simp⟩
  have hs0 : (w.alloc (.cells #[.slice none 0 0] 37)).heap.size = w.heap.size + 1 := by simp
  have HST := Lib.hid hst
  have HIN := Lib.hid hin
  have HS0 := Lib.hid hs0
  have HL := Lib.hid hsz
  have HB0 := Lib.hid hb0
  clear hst hin hb0 hm hown hs0 hsz
  refine (callsIn_wide (n := 3)).1 ?_
  refine callsIn_of_wp_marks Tryz.func127 rfl trivial ?_ rfl
  simp only [Tryz.ntmps127, List.size_toArray, List.length_cons, List.length_nil, Nat.reduceAdd, Nat.reduceSub, Array.replicate_succ, Array.replicate_zero, List.push_toArray, List.append_toArray, List.nil_append, List.cons_append]
  gi_wp2
  obtain ⟨W0, hW0⟩ : ∃ W0, w.alloc (.cells #[.slice none 0 0] 37) = W0 := ⟨_, rfl⟩
  rw [hW0] at HIN HS0 HB0 ⊢
  refine wpIn_rangeFunc_ownH rfl (by decide) (gf := 101) (lb := #[.pointer (some ⟨Bm, 0, none⟩)]) rfl trivial (enters_of Tryz.func101 (by kernel_rfl) rfl)
    HST.out (fun h k => h.trans k) (fun W l o o' _ h1 h2 h3 => keysK_b W l o o' h1 h2 h3) HB0.out (fun _ => rfl)
    (ApI w) (fun _ _ _ => False) (by rw [HS0.out]; exact apI_own w) (fun c => (fun _ _ _ _ h => h.elim))
    HIN.out (fun x a' _ => a' = { tmps := frA (.func (.func 101) #[] #[.pointer (some ⟨Bm, 0, none⟩)]) w.heap.size (.int .u32 x), defers := [] }) (fun x a' => fun _ _ _ _ h _ _ => h) ?assign ?body ?done ?stop
  case stop =>
    rintro D c pre W hD hp h
    exact h.elim
  case assign =>
    intro l pre x W K hI hK
    have HK := Lib.hid hK
    have HAI := Lib.hid hI
    clear hK hI
    simp only [encV]
    gi_wp2
    exact HK.out _ _ (KeepsOthers.refl W |>.from _) (KeepsWalks.refl W) HAI.out rfl
  case body =>
    rintro l pre x a' W hl ⟨r, hr⟩ ⟨v, h1, h2, h3, h4⟩ rfl hlt
    have cv := cell1 h1
    have fv := free1 (i := 0) h1
    have hp : pre.length < 1000000000000 := by have := HL.out; omega
    have HO := Lib.hid h2
    have HH := Lib.hid (And.intro h1 (And.intro h3 h4))
    clear h1 h2 h3 hr hlt
    simp only [frA]
    gi_wp2_with (gi_at_builtin; refine wpListIn_append_own _ rfl (.tmp 8) (.tmp 10) 37 rfl (w.heap.size + 1) 23 i0 _ 1 4 Tryz.underlying37 HI.out.1 HI.out.2.1 HI.out.2.2.1 HI.out.2.2.2 rfl (by decide) v pre.length (u32s pre) rfl (HO.out.alloc _) ⟨W.heap.size, 0, none⟩ 1 1 [.int .u32 x] rfl rfl (new1 x W 23) (one_u32 x) (by unfold maxLen; omega) (by omega) (by simp; omega) ?_; intro v' w3 hown hgrow hnil; obtain ⟨ao3, cap3, ev3, _⟩ := own_slice hown; subst ev3; have H3 := Lib.hid (And.intro hown hgrow); have hp3 := (hgrow.block w.heap.size (by simp; omega) (fun e => by have := (own_obj HO.out e.symm).1; omega)).trans ((heap_alloc_old _ _ (by omega)).trans HH.out.1); have c3 := cell1 hp3; have f3 := free1 (i := 0) hp3; have HP3 := Lib.hid hp3; clear hown hgrow hnil hp3)
    have k1 : KeepsOthers W w3 := (KeepsOthers.alloc W _).trans (KeepsOthers.of_grownBy H3.out.2 (fun j o e ho => by
      obtain ⟨_, o', ho', hc, _⟩ := own_obj (HO.out.alloc (.cells #[.int .u32 x] 23)) e
      rw [ho] at ho'
      cases ho'
      exact hc))
    have kw : KeepsWalks W w3 := (KeepsWalks.alloc W _).trans (KeepsWalks.of_grownBy H3.out.2 (fun j o e ho => by
      obtain ⟨_, o', ho', _, hc⟩ := own_obj (HO.out.alloc (.cells #[.int .u32 x] 23)) e
      rw [ho] at ho'
      cases ho'
      exact hc))
    have b3 : Below w.heap.size W w3 := ((Below.refl _ W).alloc HH.out.2.1.size (.cells #[.int .u32 x] 23)).grown H3.out.2 (by have := HH.out.2.1.size; simp; omega) (fun k e => by have := (own_obj HO.out e).1; omega)
    have b4 : Below w.heap.size W (w3.setCell ⟨w.heap.size, 0, none⟩ (.slice ao3 (pre.length + 1) cap3)) := b3.setCell (p := ⟨w.heap.size, 0, none⟩) (Nat.le_refl _) _
    refine ⟨(k1.trans (KeepsOthers.setCell _ _ _)).from _, kw.trans (KeepsWalks.setCell _ _ _), .slice ao3 (pre.length + 1) cap3, set_block HP3.out, ?_, HH.out.2.1.trans b4, Nat.le_trans h4 b4.size⟩
    rw [List.length_append, u32s_app]
    refine own_on (W := w3) H3.out.1 (fun g e => ?_)
    have hg := (own_obj H3.out.1 e).1
    show (w3.heap.modify w.heap.size _)[g]? = _
    rw [Array.getElem?_modify, if_neg (by omega)]
  case done =>
    rintro D ys W hD hys ⟨v, h1, h2, h3, h4⟩ hK
    have cv := cell1 h1
    gi_wp2
    refine ⟨by simp, .inl ⟨_, _, rfl, run_takeDeferred hK, ?_⟩⟩
    refine ⟨v, ?_, v, ys, rfl, hys, ?_, ?_⟩
    · simp [results, Tryz.results127, go_sem]
    · refine own_base (own_on h2 (fun g e => World.putObj_heap_other ?_)) (Nat.le_succ _)
      rintro rfl
      obtain ⟨_, o, ho, hc, _⟩ := own_obj h2 e
      rw [hK] at ho
      cases ho
      cases hc
    · refine h3.trans ?_
      have hD2 : w.heap.size ≤ D := by have := HS0.out; omega
      exact (Below.refl _ W).grown (grownBy_putObj' W D _) h3.size (fun k e => by injection e with e; omega)
theorem collect_any (Bm b nn : Nat) (D0 : DataW Value) (w : World) (hBm : Bm < w.heap.size) (hm : w.cell? ⟨Bm, 0, none⟩ = some (.map (some b))) (hown : w.ownsMap Tryz.prog 23 tok b nn D0) (hnn : nn ≤ 1000000000000) :
    Calls Tryz.prog 100 #[.func (.func 101) #[] #[.pointer (some ⟨Bm, 0, none⟩)]] w fun e w' => ∃ v ss, e = .returned v ∧ AllKeys D0 ss ∧ w'.ownsRow w.heap.size 23 1 v ss.length (u32s ss) ∧ Below w.heap.size w w' := by
  have HA := Lib.hid (app_any Bm b nn D0 w hBm hm hown hnn)
  clear hBm hm hown hnn
  go_enter Tryz.func100, Tryz.ntmps100
  go_wp2_with (go_at_call 127; refine HA.out.mono ?_; rintro e w1 ⟨v, ss, rfl, hss, ho, hb⟩; obtain ⟨ao1, cap1, ev, _⟩ := own_slice ho; subst ev; have H := Lib.hid (And.intro hss (And.intro ho hb)); clear hss ho hb)
  go_ret
  exact ⟨_, ss, rfl, H.out⟩
theorem keys_any (b : Nat) (w : World) : Calls Tryz.prog 67 #[.map (some b)] w fun e w' => e = .returned (.func (.func 101) #[] #[.pointer (some ⟨w.heap.size, 0, none⟩)]) ∧ w.alloc (.cells #[.map (some b)] 131) = w' := by
  have hmf : ∀ (fn : Fn) (first cap : Array Value) (w : World), (Instr.makeFunc fn first cap).run Tryz.prog w = .ok (.func fn first cap) w := fun _ _ _ _ => rfl
  go_enter Tryz.func67, Tryz.ntmps67
  go_wp2
  go_ret
  exact ⟨rfl, rfl⟩
theorem cs_u32 (ss : List Int) : cs ss.length (fun k => ss.getD k 0) = u32s ss := by
  apply List.ext_getElem?
  intro i
  by_cases h : i < ss.length
  · rw [cs_at _ h]; simp [u32s, h]
  · rw [List.getElem?_eq_none (by rw [cs_len]; omega), List.getElem?_eq_none (by rw [u32s_len]; omega)]
theorem cs_map (n : Nat) (f : So.Fn) : cs n f = u32s ((List.range n).map f) := by simp [cs, u32s]
theorem range_getD (ss : List Int) : (List.range ss.length).map (fun k => ss.getD k 0) = ss := by
  apply List.ext_getElem?
  intro i
  by_cases h : i < ss.length
  · simp [h]
  · rw [List.getElem?_eq_none (by simp; omega), List.getElem?_eq_none (by omega)]
/-- Numbers that rise. -/
def Rise (l : List Int) : Prop := l.Pairwise (· < ·)
theorem up_rise {n : Nat} {f : So.Fn} (h : Up 0 n f) (hn : ((List.range n).map f).Nodup) : Rise ((List.range n).map f) := by
  unfold Rise
  rw [List.pairwise_map]
  unfold List.Nodup at hn
  rw [List.pairwise_map] at hn
  have hr : (List.range n).Pairwise (· < ·) := List.pairwise_lt_range
  have : (List.range n).Pairwise (fun i j => f i ≠ f j ∧ i < j) := hn.and hr
  refine List.Pairwise.imp_of_mem (fun {i j} hi hj hp => ?_) this
  have h1 := h i j (Nat.zero_le _) (Nat.le_of_lt hp.2) (List.mem_range.1 hj)
  have := hp.1
  omega
/-- A slice that is known by its cells, sorted: what slices.Sort leaves of it. -/
theorem sortK_any (B : Nat) (v : Value) (ss : List Int) (w : World) (h : w.ownsRow B 23 1 v ss.length (u32s ss)) (hn : ss.Nodup) (hl : ss.length ≤ 1000000000000) :
    Calls Tryz.prog 83 #[v] w fun e w' => e = .returned (.tuple #[]) ∧ ∃ ss', ss'.Perm ss ∧ ss'.length = ss.length ∧ Rise ss' ∧ w'.ownsRow B 23 1 v ss'.length (u32s ss') ∧ Turned (fun g => v.ownBlock = some g) w w' := by
  rcases h.2 with ⟨rfl, h0⟩ | ⟨g, cap, cur, rfl, h1, h2, h3, h4, h5, h6⟩
  · have : ss = [] := List.eq_nil_of_length_eq_zero h0
    subst this
    refine (sort_none none 0 w).mono ?_
    rintro e _ ⟨rfl, rfl⟩
    exact ⟨rfl, [], List.Perm.refl _, rfl, List.Pairwise.nil, h, .refl _ _⟩
  · have hO : So.Own w B g cap ss.length (fun k => ss.getD k 0) := by
      unfold So.Own
      rw [cs_u32]
      exact h
    refine (sort_any B g cap ss.length _ w hO (by omega)).mono ?_
    rintro e w' ⟨rfl, f', hs, hu, ho, ht⟩
    have hp := hs.perm
    rw [range_getD] at hp
    refine ⟨rfl, _, hp, by simp, up_rise hu (hp.nodup_iff.2 hn), ?_, ht.mono (fun k hk => by simp [Value.ownBlock, hk])⟩
    have := ho
    unfold So.Own at this
    rw [cs_map] at this
    simpa using this
/-- What slices.Sorted of a map's keys answers. -/
def SortedOf (D0 : DataW Value) (w : World) (e : Ending) (w' : World) : Prop :=
  ∃ ao cap ss, e = .returned (.slice ao ss.length cap) ∧ AllKeys D0 ss ∧ Rise ss ∧ w'.ownsRow w.heap.size 23 1 (.slice ao ss.length cap) ss.length (u32s ss) ∧ Below w.heap.size w w'
theorem sorted_any (Bm b nn : Nat) (D0 : DataW Value) (w : World) (hBm : Bm < w.heap.size) (hm : w.cell? ⟨Bm, 0, none⟩ = some (.map (some b))) (hown : w.ownsMap Tryz.prog 23 tok b nn D0) (hnn : nn ≤ 1000000000000) :
    Calls Tryz.prog 66 #[.func (.func 101) #[] #[.pointer (some ⟨Bm, 0, none⟩)]] w fun e w' => SortedOf D0 w e w' := by
  have hsz : Maps.size D0 ≤ 1000000000000 := Nat.le_trans hown.size_le hnn
  have HA := Lib.hid (collect_any Bm b nn D0 w hBm hm hown hnn)
  clear hBm hm hown
  go_enter Tryz.func66, Tryz.ntmps66
  go_wp2_with (fail)
  refine HA.out.mono ?_
  rintro e w1 ⟨v, ss, rfl, hss, ho, hb⟩
  obtain ⟨ao1, cap1, rfl, _⟩ := own_slice ho
  have H1 := Lib.hid (And.intro hss (And.intro ho hb))
  clear hss ho hb
  go_wp2_with (fail)
  refine (sortK_any w.heap.size _ ss w1 H1.out.2.1 H1.out.1.1 (Nat.le_trans H1.out.1.2.2.2 hsz)).mono ?_
  rintro e w2 ⟨rfl, ss', hp, hlen, hr, ho, ht⟩
  have H2 := Lib.hid (show SortedOf D0 w (.returned (.slice ao1 ss.length cap1)) w2 from ⟨ao1, cap1, ss', by rw [hlen], ⟨hp.nodup_iff.2 H1.out.1.1, fun x hx => H1.out.1.2.1 x (hp.mem_iff.1 hx), fun x hx => (hp.mem_iff).trans (H1.out.1.2.2.1 x hx), by rw [hlen]; exact H1.out.1.2.2.2⟩, hr, by rw [← hlen] at ho; exact ho, H1.out.2.2.trans (ht.below H1.out.2.2.size (fun g hg => (own_obj H1.out.2.1 hg).1))⟩)
  clear hp hlen hr ho ht
  go_wp2_with (fail)
  go_ret
  exact H2.out
end Go.Proofs.YtafenkepigmcaaaGreatDoor.Gr.KA
