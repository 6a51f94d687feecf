/- A vertex that goes from one tally to another one takes its halves along: proved for every two lists of vertices and every vertex, no condition. -/
import Derived.Test.YtgjjfodogkcmmaaR2
import Derived.Test.YtgjjfodogkcmmaaQ3
namespace Go.Proofs.Ytgjjfodogkcmmaa.Moves
open Go Go.ChangeShapes Go.WideShapes Go.ChangeAt Go.RowKit
open Go.Proofs.Ytgjjfodogkcmmaa.Gh Go.Joins
set_option maxRecDepth 100000 in
theorem lifted (os : Os) (started : os.Started) (H : Type) (enc : TypeId × Value → H) :
    ReturnsInHanded {} Try.checked os 5 .any (Rows.ghostMovesSpec.pre6 enc Try.prog Try.f5 Rows.ghostMovesRow.domain false) (Rows.ghostMovesSpec.post enc Try.prog Try.f5 false true false false) := by
  refine returnsInHanded_of_change_sized (C := Try.checked) own started (by kernel_rfl) Try.func5
    (ChangeSpec.witness6 (enc := enc) (C := Try.checked) false ⟨#[], #[.slice none 0 0, .slice none 0 0, .agg #[.int .u32 0, .bool false, .slice none 0 0, .slice none 0 0]], []⟩ 8 (by kernel_rfl) (by kernel_rfl) (by kernel_rfl) (by kernel_rfl)) ?_
  intro W base args ds gs before hval0 hW hcnd hwt _
  have hval : ∀ (j : Nat) t v, Try.f5.params[j]? = some t → args[j]? = some v → Value.okWide Try.prog W .any base t v := hval0
  have hW' := hW
  obtain ⟨p, q, hA0, hV, rfl, hfz, hnd⟩ := hW
  have hA : DataW.TrodAll enc Try.prog W 0 (fun _ => true) true Try.f5.params.toList args.toList ds p := hA0
  rw [Try.params5] at hA hval
  obtain ⟨v0, vs0, d0, ds0, p0, q0, hargs, rfl, rfl, h0, r0⟩ := trodAll_cons hA
  obtain ⟨v1, vs1, d1, ds1, p1, q1, rfl, rfl, rfl, h1, r1⟩ := trodAll_cons r0
  obtain ⟨v2, vs2, d2, ds2, p2, q2, rfl, rfl, rfl, h2, r2⟩ := trodAll_cons r1
  obtain ⟨rfl, rfl, rfl⟩ := trodAll_nil r2
  obtain rfl : args = #[v0, v1, v2] := by cases args; simp_all
  obtain ⟨rfl, rfl⟩ := trodVars_none hV
  clear hA0 hval0
  simp only [List.append_nil] at hW'
  have walk : Calls Try.prog 5 #[v0, v1, v2] W fun e w' => e = .returned (.bool true) ∧ Below W.heap.size W w' := by
    have hw0 : Wt 22 d0 := fun n hn => by
      have hp : Try.f5.params.toList = [22, 22, 28] := by rw [Try.params5]
      have h1 := List.all_eq_true.1 hwt n (by
        show n ∈ DataW.weightsEach Try.prog (Try.f5.params.toList ++ _) _
        rw [hp]
        simp only [List.cons_append, List.nil_append, DataW.weightsEach, List.mem_append]
        exact .inl hn)
      exact of_decide_eq_true h1
    have hw1 : Wt 22 d1 := fun n hn => by
      have hp : Try.f5.params.toList = [22, 22, 28] := by rw [Try.params5]
      have h1 := List.all_eq_true.1 hwt n (by
        show n ∈ DataW.weightsEach Try.prog (Try.f5.params.toList ++ _) _
        rw [hp]
        simp only [List.cons_append, List.nil_append, DataW.weightsEach, List.mem_append]
        exact .inr (.inl hn))
      exact of_decide_eq_true h1
    have hw2 : Wt 28 d2 := fun n hn => by
      have hp : Try.f5.params.toList = [22, 22, 28] := by rw [Try.params5]
      have h1 := List.all_eq_true.1 hwt n (by
        show n ∈ DataW.weightsEach Try.prog (Try.f5.params.toList ++ _) _
        rw [hp]
        simp only [List.cons_append, List.nil_append, DataW.weightsEach, List.mem_append]
        exact .inr (.inr (.inl hn)))
      exact of_decide_eq_true h1
    obtain ⟨ao, ca, Vs, rfl, l1, hin⟩ := open_vs (hval 0 22 v0 rfl rfl) h0 hw0
    obtain ⟨bo, cb, Us, rfl, l2, hin2⟩ := open_vs (hval 1 22 v1 rfl rfl) h1 hw1
    obtain ⟨u, rfl, hu, hs, hid⟩ := open_vertex2 (hval 2 28 v2 rfl rfl) h2 hw2
    exact moves_law ao bo ca cb Vs Us u W hin hin2 hu hs hid l1 l2
  refine walk.mono fun e W' ⟨he, hb⟩ => ?_
  subst he
  refine ⟨_, rfl, law_true2 rfl (by kernel_rfl) rfl hW' hb ?_⟩
  rw [Try.params5]
  have hlt := fun x hx => hW'.lt x hx
  have back0 := Below.trod laid_out (by kernel_rfl) (of_decide_eq_true (by kernel_rfl)) h0 hb (fun x hx => hlt x (by simp [hx]))
  have back1 := Below.trod laid_out (by kernel_rfl) (of_decide_eq_true (by kernel_rfl)) h1 hb (fun x hx => hlt x (by simp [hx]))
  have back2 := Below.trod laid_out (by kernel_rfl) (of_decide_eq_true (by kernel_rfl)) h2 hb (fun x hx => hlt x (by simp [hx]))
  have := trodAll_cons_mk back0 (trodAll_cons_mk back1 (trodAll_cons_mk back2 (trodAll_mk0 (enc := enc) (P := Try.prog) (w := W'))))
  rwa [List.append_nil] at this
theorem said : Rows.GhostMovesSaid :=
  OpenClaim.holds_of_wide 5 Try.f5 rfl rfl rfl rfl rfl rfl rfl ⟨rfl, rfl, rfl, rfl, rfl⟩ rfl rfl rfl rfl rfl (by kernel_rfl) Try.func5 (by kernel_rfl)
    (of_decide_eq_true (by kernel_rfl)) (by unfold Func.isWrapper; first | (rw [if_pos (by decide +kernel)]; kernel_rfl) | (rw [if_neg (by decide +kernel)]; exact ⟨rfl, rfl⟩))
    (fun os started H enc _ => lifted os started H enc)
#print axioms said
end Go.Proofs.Ytgjjfodogkcmmaa.Moves
