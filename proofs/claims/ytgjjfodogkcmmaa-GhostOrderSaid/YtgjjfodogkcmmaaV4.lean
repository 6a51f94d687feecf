/- ghost: the law's awake, walked. -/
import Derived.Test.YtgjjfodogkcmmaaV3
namespace Go.Proofs.Ytgjjfodogkcmmaa.Gh
open Go Go.RowKit Ytgjjfodogkcmmaa.So
theorem v_low {w : World} {B C : Nat} {T : TypeId} {e n : Nat} {v : Value} {xs : List Value} (h : w.ownsRow C T e v n xs) (hb : B ≤ C) : w.ownsRow B T e v n xs := by
  refine ⟨h.1, ?_⟩
  rcases h.2 with h0 | ⟨g, cap', cur, e1, e2, e3⟩
  · exact .inl h0
  · exact .inr ⟨g, cap', cur, e1, Nat.le_trans hb e2, e3⟩
set_option maxRecDepth 100000 in
set_option maxHeartbeats 1000000 in
theorem awake_any (w : World) : Calls Try.prog 9 #[] w fun e w' => e = .returned (.bool true) ∧ Below w.heap.size w w' := by
  have f3 : In32 3 := in32 (by omega) (by omega)
  have f5 : In32 5 := in32 (by omega) (by omega)
  have f7 : In32 7 := in32 (by omega) (by omega)
  have HF := Lib.hid (And.intro f3 (And.intro f5 f7))
  clear f3 f5 f7
  have c1 := Lib.hid (vertex_any 3 _ 2 [5, 7] _ (two4 (heap_alloc_new w (.cells #[.int .u32 5, .int .u32 7] 24))) (by decide))
  go_enter Try.func9, Try.ntmps9
  go_wp2_with (fail)
  refine c1.out.mono ?_
  rintro e w1 ⟨ho1, c1, rfl, ho, hb⟩
  have H1 := Lib.hid (And.intro ho (((Below.refl _ w).alloc (Nat.le_refl _) _).trans (hb.mono (by simp))))
  have c2 := Lib.hid (vertex_any 7 _ 2 [3, 5] _ (two4 (heap_alloc_new w1 (.cells #[.int .u32 3, .int .u32 5] 24))) (by decide))
  clear ho hb
  go_wp2_with (fail)
  refine c2.out.mono ?_
  rintro e w2 ⟨ho2, c2, rfl, ho, hb⟩
  have hb2 : Below w1.heap.size w1 w2 := ((Below.refl _ w1).alloc (Nat.le_refl _) _).trans (hb.mono (by simp))
  have H2 := Lib.hid (And.intro ho hb2)
  clear ho hb hb2
  obtain ⟨A, hA⟩ : ∃ A : Array Value, A = #[.int .u32 3, .bool true, .slice none 0 0, .slice ho1 2 c1, .int .u32 7, .bool true, .slice none 0 0, .slice ho2 2 c2] := ⟨_, rfl⟩
  have hrd : RdV (w2.alloc (.cells A 28)) (some ⟨w2.heap.size, 0, none⟩) [mkV 3 ho1 c1 [5, 7], mkV 7 ho2 c2 [3, 5]] := by
    have hk : w2.alloc (.cells A 28) = w2.alloc (.cells A 28) := rfl
    have o1 : (w2.alloc (.cells A 28)).ownsRow (w.heap.size + 1) 76 4 (.slice ho1 2 c1) 2 (h4 ([5, 7].map fh)) := by
      have h0 := H1.out.1
      have h1 : w2.ownsRow (w.heap.size + 1) 76 4 (.slice ho1 2 c1) 2 (h4 ([5, 7].map fh)) := own_on (v_low h0 (by simp)) (fun g e => H2.out.2.block g (World.ownsRow.lt h0 g e).2)
      exact h1.alloc _
    have o2 : (w2.alloc (.cells A 28)).ownsRow (w1.heap.size) 76 4 (.slice ho2 2 c2) 2 (h4 ([3, 5].map fh)) := (v_low H2.out.1 (by simp)).alloc _
    refine two_vs (T := 28) ?_ (mk_ok o1 HF.out.1 (fun x hx => ?_)) (mk_ok o2 HF.out.2.2 (fun x hx => ?_))
    · rw [heap_alloc_new, hA]; rfl
    · simp at hx; rcases hx with rfl | rfl
      · exact HF.out.2.1
      · exact HF.out.2.2
    · simp at hx; rcases hx with rfl | rfl
      · exact HF.out.1
      · exact HF.out.2.1
  have c3 := Lib.hid (count_any _ 2 _ _ hrd (by simp) (fun v hv => by simp at hv; rcases hv with rfl | rfl <;> simp [mkV]))
  subst hA
  rw [hold_two] at c3
  clear hrd
  go_wp2_with (fail)
  refine c3.out.mono ?_
  rintro e w3 ⟨ao, cap, ss, rfl, hn, ho, hb⟩
  rw [gl_S0 hn] at ho ⊢
  have H3 := Lib.hid (And.intro (rdg_own ho) (((Below.refl _ w2).alloc (Nat.le_refl _) _).trans (hb.mono (by simp))))
  clear hn ho hb
  have c4 := Lib.hid (show Calls Try.prog 12 #[.slice ao 1 cap] w3 (OutG w3 [(5, 2)]) from by
    obtain ⟨ao', cap', e, hr⟩ := H3.out.1
    simp only [Value.slice.injEq] at e
    obtain ⟨rfl, _, rfl⟩ := e
    exact ghosts_any _ _ [(5, 2)] w3 hr (by decide))
  go_wp2_with (fail)
  refine c4.out.mono ?_
  rintro e w4 ⟨v, rfl, ho, hb⟩
  obtain ⟨ao5, cap5, rfl, hr5⟩ := rdg_own ho
  have H4 := Lib.hid (And.intro hr5 hb)
  have c5 := Lib.hid (same_any ao5 (some ⟨w4.heap.size, 0, none⟩) cap5 1 [(5, 2)] [(5, 2)] (w4.alloc (.cells #[.int .u32 5, .int .i64 2] 48)) (hr5.on ((Below.refl _ w4).alloc (Nat.le_refl _) _) (Nat.le_refl _)) (one_g (heap_alloc_new _ _)) (by decide) (by decide))
  clear ho hb hr5
  go_wp2_with (fail)
  refine c5.out.mono ?_
  rintro e w5 ⟨rfl, hb⟩
  have HE : Below w.heap.size w w5 := by
    have b1 := H1.out.2
    have b2 := b1.trans (H2.out.2.mono b1.size)
    have b3 := b2.trans (H3.out.2.mono b2.size)
    have b4 := b3.trans (H4.out.2.mono b3.size)
    have b5 := b4.alloc b4.size (.cells #[.int .u32 5, .int .i64 2] 48)
    exact b5.trans (hb.mono b5.size)
  have HE := Lib.hid HE
  clear hb
  go_wp2_with (fail)
  go_ret
  exact ⟨by simp, HE.out⟩
end Go.Proofs.Ytgjjfodogkcmmaa.Gh
