/- ghost: a map's keys, each once, in some order; collected; sorted. -/
import Derived.Test.YtgjjfodogkcmmaaT5
namespace Go.Proofs.Ytgjjfodogkcmmaa.Gh
open Go Go.RowKit Go.Stop Go.Shelf Ytgjjfodogkcmmaa.So
attribute [local go_sem] Oper.semAt_some
theorem same_u32 (x y : Int) : (Lit.int .u32 x).sameKey (.int .u32 y) = decide (x = y) := by
  by_cases h : x = y
  · subst h; simp [Lit.sameKey]
  · simp [Lit.sameKey, h]
theorem not_has_at (D : DataW Value) {k : Lit} (h : Maps.has D k = false) (z : DataW Value) : D.atKey k z = z := by
  cases D <;> try rfl
  rename_i es
  simp only [Maps.has, List.any_eq_false] at h
  unfold DataW.atKey
  simp only
  rw [List.find?_eq_none.2 (fun p hp => by simpa using h p hp)]
theorem KeyIs.start (D0 : DataW Value) : KeyIs D0 (Maps.has D0) [] := ⟨List.nodup_nil, fun x _ => by simp⟩
theorem KeyIs.step {D0 : DataW Value} {left : Lit → Bool} {ss : List Int} {x : Int} (h : KeyIs D0 left ss) (hw : In32 x) (hl : left (.int .u32 x) = true) (hh : Maps.has D0 (.int .u32 x) = true) : KeyIs D0 (fun z => left z && !z.sameKey (.int .u32 x)) (ss ++ [x]) := by
  refine ⟨?_, fun y hy => ?_⟩
  · rw [List.nodup_append]
    refine ⟨h.1, by simp, fun z hz y hy => ?_⟩
    simp only [List.mem_singleton] at hy
    subst hy
    rintro rfl
    have := ((h.2 z hw).1 hz).2
    rw [hl] at this; cases this
  · rw [List.mem_append, List.mem_singleton, h.2 y hy]
    simp only [same_u32]
    by_cases e : y = x
    · subst e; simp [hh]
    · simp [e]
set_option maxRecDepth 100000 in
set_option maxHeartbeats 2000000 in
theorem keys_in (n : Nat) (hn : 1 ≤ n) (l Bm b nn : Nat) (D0 : DataW Value) (J Jx : List Int → World → Prop)
    (hY : ∀ pre x W, J pre W → pre.length < Maps.size D0 → YieldAt Fence.wide (n - 1) Try.prog l (encV x) W fun e W' =>
      (e = .returned (.bool true) ∧ J (pre ++ [x]) W' ∧ KeepsWalks W W') ∨ (e = .returned (.bool false) ∧ Jx (pre ++ [x]) W'))
    (W : World) (hJ : AbidesFrom W.heap.size J) (hm : W.cell? ⟨Bm, 0, none⟩ = some (.map (some b))) (hown : W.ownsMap Try.prog 24 tok b nn D0) (h0 : J [] W) :
    CallsIn Fence.wide n Try.prog 54 #[.func (.yield l) #[] #[], .pointer (some ⟨Bm, 0, none⟩)] W fun e W' => (∃ v, e = .returned v) ∧
      ((∃ ss, AllKeys D0 ss ∧ J ss W') ∨ (∃ pre, True ∧ Jx pre W')) := by
  have HJ := Lib.hid hJ
  have HY := Lib.hid hY
  clear hJ hY
  refine callsIn_of_wp Try.func54 rfl trivial ?_ rfl
  simp only [Try.ntmps54, List.size_toArray, List.length_cons, List.length_nil, Nat.reduceAdd, Nat.reduceSub, Array.replicate_succ, Array.replicate_zero, List.push_toArray, List.append_toArray, List.nil_append, List.cons_append]
  gi_wp2_with (first
    | (gi_at_range; refine wpListIn_range_own _ rfl _ 80 rfl 24 3 law24 Try.underlying80 tok b nn _ rfl hown ?_; intro w0 hrg0 hg0 hs0)
    | gi_in)
  go_frame
  gi_loopw [3] (fun _ wr => ∃ (left : Lit → Bool) (cnt : Nat) (ss : List Int), wr.ranges Try.prog 24 tok b W.heap.size nn D0 left cnt ∧ ss.length + cnt ≤ Maps.size D0 ∧ Hid (KeyIs D0 left ss ∧ (∀ x ∈ ss, In32 x)) ∧ J ss wr)
    (fun _ wr => wr.rangeLeft b W.heap.size)
  case atStart =>
    exact ⟨_, _, [], hrg0, by simp, Lib.hid ⟨KeyIs.start D0, by simp⟩, HJ.out [] W w0 none h0 hg0 (fun r e => by cases e)⟩
  case round =>
    obtain ⟨left, cnt, ss, hrg, hcs, HC, hJs⟩ := hrel
    gi_wp2_with (first
      | (gi_at_next; refine wpListIn_next_ranges _ rfl _ rfl 24 law24 tok (Value.int .u32) id (fun key kl hk => by obtain ⟨x, hx, _⟩ := Maps.keyOf_int_inv Try.underlying24 hk; exact ⟨x, hx⟩) (fun v _ _ => ⟨v, rfl⟩) b W.heap.size nn _ _ _ rfl hrg ?_ ?_)
      | gi_in)
    · intro hc0 hl0
      gi_wp2
      go_end0
      exact ⟨⟨_, rfl⟩, .inl ⟨ss, ⟨HC.out.1.1, HC.out.2, fun x hx => by rw [HC.out.1.2 x hx, hl0]; simp, by omega⟩, hJs⟩⟩
    · intro x c kl yd yp w2 cnt2 hkey hlk hv hat hrg2 hlt hg2 hs2 hen
      obtain ⟨x', ex, rfl, hwx⟩ := Maps.keyOf_int_inv Try.underlying24 hkey
      obtain rfl : x = x' := by injection ex
      have hJ2 : J ss w2 := HJ.out ss wr w2 (some W.heap.size) hJs hg2 (fun r e => by cases e; exact ⟨Nat.le_refl _, hrg.iter_walk⟩)
      obtain ⟨fn, tmps, assign, body, hy, hR⟩ := HY.out ss x w2 hJ2 (by omega)
      have hh : Maps.has D0 (.int .u32 x) = true := by
        cases hq : Maps.has D0 (.int .u32 x) with
        | true => rfl
        | false =>
          have h1 := hat (.held undef)
          have h2 := hat (.lit (.bool true))
          rw [not_has_at D0 hq] at h1 h2
          rw [← h1] at h2
          cases h2
      have hC2 := Lib.hid (And.intro (HC.out.1.step hwx hlk hh) (show ∀ y ∈ ss ++ [x], In32 y from fun y hy => by rw [List.mem_append, List.mem_singleton] at hy; rcases hy with hy | rfl; (exact HC.out.2 y hy); (exact hwx)))
      clear hs2
      simp only [encV] at *
      gi_wp2
      refine hR.mono ?_
      rintro e W3 (⟨rfl, hJ3, hk3⟩ | ⟨rfl, hJx3⟩)
      · gi_wp2
        have hrg3 := hrg2.of_walks hk3
        go_roundw
        case rel => exact ⟨_, cnt2, ss ++ [x], hrg3, by simp; omega, hC2, hJ3⟩
        case measure => rw [hrg3.left_eq, hrg.left_eq]; exact hlt
      · gi_wp2
        refine bodyPost_ret (results_none rfl _ _ _) rfl ?_
        exact ⟨⟨_, rfl⟩, .inr ⟨ss ++ [x], trivial, hJx3⟩⟩
end Go.Proofs.Ytgjjfodogkcmmaa.Gh
