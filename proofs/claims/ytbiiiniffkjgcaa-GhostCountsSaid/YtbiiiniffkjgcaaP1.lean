/- GhostCounts: Count and Cuts are the document's, and leave what they were given as it was: proved for every list of vertices, no condition. -/
import Derived.Test.YtbiiiniffkjgcaaRow
import Derived.SizedLaws
namespace Go.Proofs.Ytbiiiniffkjgcaa.Counts
open Go Go.ChangeShapes Go.WideShapes Go.ChangeAt Go.RowKit Go.Joins
open Go.Proofs.Ytbiiiniffkjgcaa.Gh
theorem own : ownKnob Try.prog.godebug = none := by kernel_rfl
theorem laid_out : laidOutB Try.prog = true := by kernel_rfl
set_option maxRecDepth 100000 in
/-- The end of a law: the call answered true, and below what was there nothing has turned. -/
theorem law_true2 {H : Type} {enc : TypeId × Value → H} {f : Func} {s : ChangeSpec} {W W' : World} {args : Array Value} {ds : List (DataW H)} {pa : List MemPlace}
    (hvars : s.vars = []) (hres : f.resultTypes = #[4]) (hspec : s.fn H ds = { results := [.lit (.bool true)], args := ds })
    (hW : DataW.Whole enc Try.prog f.params.toList s.vars false W args.toList ds [] pa) (hb : Below W.heap.size W W')
    (hargs : DataW.TrodAll enc Try.prog W' 0 (fun b => decide (b < W.heap.size)) true f.params.toList args.toList ds pa) :
    s.post enc Try.prog f false true false false W args (.bool true) W' := by
  have bool4 : ∀ (b : Nat) (sp : Nat → Bool) (hd : Bool), DataW.TrodAll enc Try.prog W' b sp hd f.resultTypes.toList ((Value.bool true).resultList f.resultTypes.size) [.lit (.bool true)] [] := by
    intro b sp hd; rw [hres]; exact trodAll_cons_mk (shut_bool Try.underlying4 _) trodAll_mk0
  have none4 : ∀ sp : Nat → Bool, DataW.TrodVars enc Try.prog W' sp s.vars [] [] := by intro sp; rw [hvars]; rfl
  have e : s.fn H (ds ++ []) = { results := [.lit (.bool true)], args := ds } := by rw [List.append_nil]; exact hspec
  exact ⟨ds, [], pa, [], pa, [], hW, by rw [e]; exact bool4 _ _ _, by rw [e]; exact hargs, by rw [e]; exact none4 _, World.keptBut_mono (fun p hp => ⟨hp, .inr (.inl hp)⟩) (hb.frame (· ∈ pa)), fun h => by cases h⟩
set_option maxRecDepth 100000 in
theorem lifted (os : Os) (started : os.Started) (H : Type) (enc : TypeId × Value → H) :
    ReturnsInHanded {} Try.checked os 3 .any (Rows.ghostCountsSpec.pre6 enc Try.prog Try.f3 Rows.ghostCountsRow.domain false) (Rows.ghostCountsSpec.post enc Try.prog Try.f3 false true false false) := by
  refine returnsInHanded_of_change_sized (C := Try.checked) own started (by kernel_rfl) Try.func3
    (ChangeSpec.witness6 (enc := enc) (C := Try.checked) false ⟨#[], #[.slice none 0 0], []⟩ 8 (by kernel_rfl) (by kernel_rfl) (by kernel_rfl) (by kernel_rfl)) ?_
  intro W base args ds gs before hval0 hW hcnd hwt _
  have hval : ∀ (j : Nat) t v, Try.f3.params[j]? = some t → args[j]? = some v → Value.okWide Try.prog W .any base t v := hval0
  have hW' := hW
  obtain ⟨p, q, hA0, hV, rfl, hfz, hnd⟩ := hW
  have hA : DataW.TrodAll enc Try.prog W 0 (fun _ => true) true Try.f3.params.toList args.toList ds p := hA0
  rw [Try.params3] at hA hval
  obtain ⟨v0, vs0, d0, ds0, p0, q0, hargs, rfl, rfl, h0, r0⟩ := trodAll_cons hA
  obtain ⟨rfl, rfl, rfl⟩ := trodAll_nil r0
  obtain rfl : args = #[v0] := by cases args; simp_all
  obtain ⟨rfl, rfl⟩ := trodVars_none hV
  clear hA0 hval0
  simp only [List.append_nil] at hW'
  have walk : Calls Try.prog 3 #[v0] W fun e w' => e = .returned (.bool true) ∧ Below W.heap.size W w' := by
    have hw : Wt 22 d0 := fun n hn => by
      have hp : Try.f3.params.toList = [22] := by rw [Try.params3]
      have h1 := List.all_eq_true.1 hwt n (by
        show n ∈ DataW.weightsEach Try.prog (Try.f3.params.toList ++ _) _
        rw [hp]
        simp only [List.cons_append, List.nil_append, DataW.weightsEach, List.mem_append]
        exact .inl hn)
      exact of_decide_eq_true h1
    obtain ⟨ao, cap, Vs, rfl, x1, x2⟩ := open_vs (hval 0 22 v0 rfl rfl) h0 hw
    exact counts_law ao cap Vs W x2 x1
  refine walk.mono fun e W' ⟨he, hb⟩ => ?_
  subst he
  refine ⟨_, rfl, law_true2 rfl (by kernel_rfl) rfl hW' hb ?_⟩
  rw [Try.params3]
  have hlt := fun x hx => hW'.lt x hx
  have back0 := Below.trod laid_out (by kernel_rfl) (of_decide_eq_true (by kernel_rfl)) h0 hb (fun x hx => hlt x (by simp [hx]))
  have := trodAll_cons_mk back0 (trodAll_mk0 (enc := enc) (P := Try.prog) (w := W'))
  rwa [List.append_nil] at this
theorem said : Rows.GhostCountsSaid :=
  OpenClaim.holds_of_wide 3 Try.f3 rfl rfl rfl rfl rfl rfl rfl ⟨rfl, rfl, rfl, rfl, rfl⟩ rfl rfl rfl rfl rfl (by kernel_rfl) Try.func3 (by kernel_rfl)
    (of_decide_eq_true (by kernel_rfl)) (by unfold Func.isWrapper; first | (rw [if_pos (by decide +kernel)]; kernel_rfl) | (rw [if_neg (by decide +kernel)]; exact ⟨rfl, rfl⟩))
    (fun os started H enc _ => lifted os started H enc)
#print axioms said
end Go.Proofs.Ytbiiiniffkjgcaa.Counts
