/- A second cut of power, nothing being written between, changes nothing; all kept is all there, none kept is none: proved for all scripts and whatever is kept, no condition but the form's own reach. -/
import Derived.Test.YtjfbgihjgnbeeaaRow3
import Derived.Test.YtjfbgihjgnbeeaaV5
namespace Go.Proofs.Ytjfbgihjgnbeeaa.Again
open Go Go.ChangeShapes Go.WideShapes Go.ChangeAt Go.RowKit Go.Joins Go.ChangeMaps Go.Deep
open Go.Proofs.Ytjfbgihjgnbeeaa.Pl
set_option maxRecDepth 100000 in
theorem lifted (os : Os) (started : os.Started) (H : Type) (enc : TypeId × Value → H) :
    ReturnsInHanded {} Try.checked os 5 .any (Rows.plateAgainSpec.pre6 enc Try.prog Try.f5 Rows.plateAgainRow.domain false) (Rows.plateAgainSpec.post enc Try.prog Try.f5 false true false false) := by
  refine returnsInHanded_of_change_sized (C := Try.checked) own started (by kernel_rfl) Try.func5
    (ChangeSpec.witness6 (enc := enc) (C := Try.checked) false ⟨#[], #[.slice none 0 0, .slice none 0 0, .slice none 0 0, .bool false], []⟩ 8 (by kernel_rfl) (by kernel_rfl) (by kernel_rfl) (by kernel_rfl)) ?_
  intro W base args ds gs before hval0 hW hcnd hsz0 _
  have hval : ∀ (j : Nat) t v, Try.f5.params[j]? = some t → args[j]? = some v → Value.okWide Try.prog W .any base t v := hval0
  have hW' := hW
  obtain ⟨p, q, hA0, hV, rfl, hfz, hnd⟩ := hW
  have hA : DataW.TrodAll enc Try.prog W 0 (fun _ => true) true Try.f5.params.toList args.toList ds p := hA0
  rw [Try.params5] at hA hval
  obtain ⟨v0, vs0, d0, ds0, p0, q0, hargs, rfl, rfl, h0, r0⟩ := trodAll_cons hA
  obtain ⟨v1, vs1, d1, ds1, p1, q1, rfl, rfl, rfl, h1, r1⟩ := trodAll_cons r0
  obtain ⟨v2, vs2, d2, ds2, p2, q2, rfl, rfl, rfl, h2, r2⟩ := trodAll_cons r1
  obtain ⟨v3, vs3, d3, ds3, p3, q3, rfl, rfl, rfl, h3, r3⟩ := trodAll_cons r2
  obtain ⟨rfl, rfl, rfl⟩ := trodAll_nil r3
  obtain rfl : args = #[v0, v1, v2, v3] := by cases args; simp_all
  obtain ⟨rfl, rfl⟩ := trodVars_none hV
  clear hA0 hval0
  simp only [List.append_nil] at hW'
  have hsz : (DataW.weightsEach Try.prog ([22, 22, 31, 4] : List TypeId) ([d0, d1, d2, d3] : List (DataW H))).all (fun x => decide (x ≤ reachBytes)) = true := hsz0
  have walk : Calls Try.prog 5 #[v0, v1, v2, v3] W fun e w' => e = .returned (.bool true) ∧ Below W.heap.size W w' := by
    obtain ⟨ao, n, c, L, rfl, hn, hc, hOps, hr⟩ := open_ops (hval 0 22 v0 rfl rfl) h0
    obtain ⟨am, nm, cm, M, rfl, hnm, hcm, hOpm, hrm⟩ := open_ops (hval 1 22 v1 rfl rfl) h1
    obtain ⟨ak, lk, ck, ks, rfl, b1, b2, b3, b4, b5⟩ := open_bytes (hval 2 31 v2 rfl rfl) h2
    obtain ⟨all, rfl, _, _⟩ := open_bool Try.underlying4 (hval 3 4 v3 rfl rfl) h3
    exact again_any ao n c L am nm cm M ak lk ck ks all W hn hc hOps hr hnm hcm hOpm hrm b1 b2 b3 b4 b5 (bytes_reach h2 hsz 2 rfl rfl)
  refine walk.mono fun e W' ⟨he, hb⟩ => ?_
  subst he
  refine ⟨_, rfl, law_true2 rfl (by kernel_rfl) rfl hW' hb ?_⟩
  rw [Try.params5]
  have hlt := fun x hx => hW'.lt x hx
  have back0 := Below.trod laid_out (by kernel_rfl) (of_decide_eq_true (by kernel_rfl)) h0 hb (fun x hx => hlt x (by simp [hx]))
  have back1 := Below.trod laid_out (by kernel_rfl) (of_decide_eq_true (by kernel_rfl)) h1 hb (fun x hx => hlt x (by simp [hx]))
  have back2 := Below.trod laid_out (by kernel_rfl) (of_decide_eq_true (by kernel_rfl)) h2 hb (fun x hx => hlt x (by simp [hx]))
  have back3 := Below.trod laid_out (by kernel_rfl) (of_decide_eq_true (by kernel_rfl)) h3 hb (fun x hx => hlt x (by simp [hx]))
  have := trodAll_cons_mk back0 (trodAll_cons_mk back1 (trodAll_cons_mk back2 (trodAll_cons_mk back3 (trodAll_mk0 (enc := enc) (P := Try.prog) (w := W')))))
  rwa [List.append_nil] at this
theorem said : Rows.PlateAgainSaid :=
  OpenClaim.holds_of_wide 5 Try.f5 rfl rfl rfl rfl rfl rfl rfl ⟨rfl, rfl, rfl, rfl, rfl⟩ rfl rfl rfl rfl rfl (by kernel_rfl) Try.func5 (by kernel_rfl)
    (of_decide_eq_true (by kernel_rfl)) (by unfold Func.isWrapper; first | (rw [if_pos (by decide +kernel)]; kernel_rfl) | (rw [if_neg (by decide +kernel)]; exact ⟨rfl, rfl⟩))
    (fun os started H enc _ => lifted os started H enc)
#print axioms said
end Go.Proofs.Ytjfbgihjgnbeeaa.Again
