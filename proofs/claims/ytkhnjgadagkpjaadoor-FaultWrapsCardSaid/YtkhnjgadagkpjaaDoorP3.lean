/- An error within is untouched by being wrapped: it tells what it told, and two that are wrapped apart tell nothing of one another: proved for every chain and every two places, no condition; the tables that the text listed reads and the type that errors asks for are as their initialisers lay them. -/
import Derived.Test.YtkhnjgadagkpjaaDoorRow2
import Derived.Test.YtkhnjgadagkpjaaDoorJ3
import Derived.Deep.DeepWitnessRowRef
namespace Go.Proofs.YtkhnjgadagkpjaaDoor.Wraps
open Go Go.ChangeShapes Go.WideShapes Go.ChangeAt Go.RowKit Go.Joins Go.ChangeMaps Go.Deep
open Go.Proofs.YtkhnjgadagkpjaaDoor.Flt
section
variable {H : Type} {enc : TypeId × Value → H} {W : World} {held : Bool}
set_option maxRecDepth 100000 in
/-- A place that came in. -/
theorem open_link {b0 : Nat} {v : Value} {d : DataW H} {p : List MemPlace} (hv : Value.okWide Tryd.prog W .any b0 42 v) (h : DataW.Trod enc Tryd.prog W 0 (fun _ => true) held 42 v d p) :
    ∃ a b, v = .agg #[.int .i64 a, .int .u32 b] ∧ InR (a, b) := by
  obtain ⟨v0, v1, y0, y1, n, rfl, rfl, rfl, t0, t1⟩ := open_agg2 Tryd.underlying42 (by kernel_rfl) cells42 hv h
  obtain ⟨a, e0, _, w0⟩ := DataW.trod_int Tryd.underlying3 t0
  obtain ⟨b, e1, _, w1⟩ := DataW.trod_int Tryd.underlying40 t1
  simp only [List.cons.injEq, and_true] at e0 e1
  subst e0; subst e1
  exact ⟨a, b, rfl, bounds_i64 w0, bounds_u32 w1⟩
set_option maxRecDepth 100000 in
set_option maxHeartbeats 1000000 in
theorem wraps_nil (ao : Option Addr) (n c : Nat) (a1 a2 b1 b2 : Int) (w : World) (hg : ErrT w) :
    Calls Tryd.prog 4 #[.agg #[.slice ao n c, .int .i64 0], .agg #[.int .i64 a1, .int .u32 a2], .agg #[.int .i64 b1, .int .u32 b2]] w fun e w' => e = .returned (.bool true) ∧ Below w.heap.size w w' := by
  have hb0 := ((box_below w (.cells #[.slice ao n c, .int .i64 0] 24)).trans ((box_below (w.alloc (.cells #[.slice ao n c, .int .i64 0] 24)) (.cells #[.int .i64 a1, .int .u32 a2] 42)).mono (by simp))).trans ((box_below ((w.alloc (.cells #[.slice ao n c, .int .i64 0] 24)).alloc (.cells #[.int .i64 a1, .int .u32 a2] 42)) (.cells #[.int .i64 b1, .int .u32 b2] 42)).mono (by simp; omega))
  have k1 : (((w.alloc (.cells #[.slice ao n c, .int .i64 0] 24)).alloc (.cells #[.int .i64 a1, .int .u32 a2] 42)).alloc (.cells #[.int .i64 b1, .int .u32 b2] 42)).cell? ⟨w.heap.size, 1, none⟩ = some (.int .i64 0) := cell_old (cell_old (by rw [World.cell?_alloc_new]; rfl) _) _
  have HG := Lib.hid (hg.on hb0)
  have HB0 := Lib.hid hb0
  have HK := Lib.hid k1
  clear hg hb0 k1
  go_enter Tryd.func4, Tryd.ntmps4
  go_wp2_with fail
  generalize (((w.alloc (.cells #[.slice ao n c, .int .i64 0] 24)).alloc (.cells #[.int .i64 a1, .int .u32 a2] 42)).alloc (.cells #[.int .i64 b1, .int .u32 b2] 42)) = w0 at *
  refine (awake_any _ HG.out).mono ?_
  rintro e w1 ⟨rfl, hb⟩
  have q1 := (hb.cell (p := ⟨w.heap.size, 1, none⟩) (World.block_lt_of_cell? w0 ⟨w.heap.size, 1, none⟩ HK.out)).trans HK.out
  have HB1 := Lib.hid (HB0.out.trans (hb.mono HB0.out.size))
  clear hb
  go_wp2_with fail
  go_ret
  exact ⟨rfl, HB1.out⟩
end
set_option maxRecDepth 100000 in
theorem contract (H : Type) (enc : TypeId × Value → H) (W : World) (base : Nat) (args : Array Value) (ds gs : List (DataW H)) (before : List MemPlace)
    (hval0 : ∀ (j : Nat) t v, Tryd.f4.params[j]? = some t → args[j]? = some v → Value.okWide Tryd.prog W .any base t v)
    (hW : DataW.Whole enc Tryd.prog Tryd.f4.params.toList Rows.faultWrapsSpec.vars false W args.toList ds gs before) (hL : laidMetH Tryd.prog Rows.faultWrapsRow.laid W) :
    Calls Tryd.prog 4 args W fun e W' => ∃ v, e = .returned v ∧ Rows.faultWrapsSpec.post enc Tryd.prog Tryd.f4 false true false false W args v W' := by
  have hval : ∀ (j : Nat) t v, Tryd.f4.params[j]? = some t → args[j]? = some v → Value.okWide Tryd.prog W .any base t v := hval0
  have hW' := hW
  obtain ⟨p, q, hA0, hV, rfl, hfz, hnd⟩ := hW
  have hA : DataW.TrodAll enc Tryd.prog W 0 (fun _ => true) true Tryd.f4.params.toList args.toList ds p := hA0
  rw [Tryd.params4] at hA hval
  obtain ⟨v0, vs0, d0, ds0, p0, q0, hargs, rfl, rfl, h0, r0⟩ := trodAll_cons hA
  obtain ⟨v1, vs1, d1, ds1, p1, q1, rfl, rfl, rfl, h1, r1⟩ := trodAll_cons r0
  obtain ⟨v2, vs2, d2, ds2, p2, q2, rfl, rfl, rfl, h2, r2⟩ := trodAll_cons r1
  obtain ⟨rfl, rfl, rfl⟩ := trodAll_nil r2
  obtain rfl : args = #[v0, v1, v2] := by cases args; simp_all
  obtain ⟨rfl, rfl⟩ := trodVars_none hV
  clear hA0 hval0
  simp only [List.append_nil] at hW'
  have walk : Calls Tryd.prog 4 #[v0, v1, v2] W fun e w' => e = .returned (.bool true) ∧ Below W.heap.size W w' := by
    obtain ⟨ao, n, c, X, r, rfl, x1, x2, x3, x4, x5, x6⟩ := open_chain (hval 0 24 v0 rfl rfl) h0
    obtain ⟨a1, a2, rfl, ia⟩ := open_link (hval 1 42 v1 rfl rfl) h1
    obtain ⟨b1, b2, rfl, ib⟩ := open_link (hval 2 42 v2 rfl rfl) h2
    by_cases hr : r = 0
    · subst hr
      exact wraps_nil ao n c a1 a2 b1 b2 W (errT_of hL)
    · exact wraps_pos ao n c X r a1 a2 b1 b2 W x1 x2 x3 x4 (errT_of hL) (pow_of hL) (by simpa using hr) x5 x6 ia ib
  refine walk.mono fun e W' ⟨he, hb⟩ => ?_
  subst he
  refine ⟨_, rfl, law_true2 rfl (by kernel_rfl) rfl hW' hb ?_⟩
  rw [Tryd.params4]
  have hlt := fun x hx => hW'.lt x hx
  have back0 := Below.trod laid_out (by kernel_rfl) (of_decide_eq_true (by kernel_rfl)) h0 hb (fun x hx => hlt x (by simp [hx]))
  have back1 := Below.trod laid_out (by kernel_rfl) (of_decide_eq_true (by kernel_rfl)) h1 hb (fun x hx => hlt x (by simp [hx]))
  have back2 := Below.trod laid_out (by kernel_rfl) (of_decide_eq_true (by kernel_rfl)) h2 hb (fun x hx => hlt x (by simp [hx]))
  have := trodAll_cons_mk back0 (trodAll_cons_mk back1 (trodAll_cons_mk back2 (trodAll_mk0 (enc := enc) (P := Tryd.prog) (w := W'))))
  rwa [List.append_nil] at this
theorem reads (os : Os) {H : Type} (enc : TypeId × Value → H) : ∃ places, DataW.whole enc Tryd.prog ((doorW os).forCall (fun _ _ => 0) ⟨#[], #[.agg #[.slice none 0 0, .int .i64 0], .agg #[.int .i64 0, .int .u32 0], .agg #[.int .i64 0, .int .u32 0]], []⟩).memory Tryd.f4.params.toList Rows.faultWrapsSpec.vars false #[.agg #[.slice none 0 0, .int .i64 0], .agg #[.int .i64 0, .int .u32 0], .agg #[.int .i64 0, .int .u32 0]].toList 8 = some ([.agg [.nil, .lit (.int .i64 0)], .agg [.lit (.int .i64 0), .lit (.int .u32 0)], .agg [.lit (.int .i64 0), .lit (.int .u32 0)]], [], places) :=
  ⟨[], by kernel_rfl⟩
set_option maxRecDepth 100000 in
theorem lifted (os : Os) (started : os.Started) (H : Type) (enc : TypeId × Value → H) (F : Stop.Interp) :
    ReturnsInHanded {} Tryd.checked os 4 .any ((OpenSpec.ofChange Rows.faultWrapsSpec).preRow enc Tryd.prog Tryd.f4 Rows.faultWrapsRow.domain false Rows.faultWrapsRow.laid) (((OpenSpec.ofChange Rows.faultWrapsSpec).at F).post enc Tryd.prog Tryd.f4 false true false false) := by
  obtain ⟨places, hx⟩ := reads os enc
  refine returnsInHanded_of_row (C := Tryd.checked) (s := OpenSpec.ofChange Rows.faultWrapsSpec) own started (by kernel_rfl) Tryd.func4
    (witness_row_atRef (enc := enc) (C := Tryd.checked) false (doorW os) #[.agg #[.slice none 0 0, .int .i64 0], .agg #[.int .i64 0, .int .u32 0], .agg #[.int .i64 0, .int .u32 0]] rfl (by kernel_rfl) (by kernel_rfl) (by kernel_rfl)
      (OpenSpec.preRow_of_cond 8 hx (by kernel_rfl) (fun k hk => by cases hk) (by kernel_rfl) (door os _))) ?_
  intro W base args ds gs before hval hW _ _ hz hL _ _
  exact contract H enc W base args ds gs before hval hW hL
theorem said : Rows.FaultWrapsSaid :=
  OpenClaim.holds_of_cond 4 Tryd.f4 rfl rfl rfl rfl rfl rfl rfl ⟨rfl, rfl, rfl, rfl, rfl⟩ rfl rfl rfl rfl rfl (by kernel_rfl) Tryd.func4 (by kernel_rfl)
    (of_decide_eq_true (by kernel_rfl)) (by unfold Func.isWrapper; first | (rw [if_pos (by decide +kernel)]; kernel_rfl) | (rw [if_neg (by decide +kernel)]; exact ⟨rfl, rfl⟩))
    (fun os started H enc _ F => by rw [OpenClaim.pre_eq_preRow]; exact lifted os started H enc F)
theorem plain (f : FuncId) (fn : Func) (hf : Tryd.pinned.checked.prog.funcNamed "gusset/gussetlaw01.FaultWraps" = some f) (hfn : Tryd.pinned.checked.prog.funcs[f]? = some fn) :
    true = Tryd.pinned.checked.prog.looks [] ∧ ∀ (j : Nat) t, fn.params[j]? = some t → Tryd.pinned.checked.prog.wantsStandIn t = false := by
  obtain rfl : f = 4 := Option.some.inj ((show Tryd.prog.funcNamed "gusset/gussetlaw01.FaultWraps" = some 4 by kernel_rfl).symm.trans hf) |>.symm
  obtain rfl : fn = Tryd.f4 := (Option.some.inj (Tryd.func4.symm.trans hfn)).symm
  refine ⟨by kernel_rfl, fun j t ht => ?_⟩
  rw [Tryd.params4] at ht
  have hm : t ∈ [24, 42, 42] := by simpa using Array.mem_of_getElem? ht
  have hall : ([24, 42, 42].all fun u => !Tryd.prog.wantsStandIn u) = true := by kernel_rfl
  exact (show Tryd.prog.wantsStandIn t = false by simpa using List.all_eq_true.1 hall t hm)
theorem card : Rows.FaultWrapsCardSaid :=
  Claim7.holds_tied_plain_at .later [] _ _ _ _ said (fun _ h => by cases h) (by kernel_rfl) (fun _ h => by cases h) faultWraps_row_tie rfl ⟨rfl, rfl⟩ (by kernel_rfl) rfl plain (by kernel_rfl)
#print axioms card
end Go.Proofs.YtkhnjgadagkpjaaDoor.Wraps
