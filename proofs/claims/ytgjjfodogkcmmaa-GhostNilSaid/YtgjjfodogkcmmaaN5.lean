/- ghost: the document's Put of nil, and GhostNil. -/
import Derived.Test.YtgjjfodogkcmmaaN3
import Derived.Test.YtgjjfodogkcmmaaN4
import Derived.Test.YtgjjfodogkcmmaaV4
import Derived.Test.YtgjjfodogkcmmaaT9
namespace Go.Proofs.Ytgjjfodogkcmmaa.Gh
open Go Go.RowKit Ytgjjfodogkcmmaa.So Ytgjjfodogkcmmaa.Vl
theorem short_len {v : Vv} (h : v.short) : v.P.length ≤ 140737488355328 ∧ v.L.length ≤ 140737488355328 := by
  have := h.pn
  have := h.hn
  omega
set_option maxRecDepth 100000 in
set_option maxHeartbeats 1000000 in
theorem docput_nil (v : Vv) (w : World) (hv : v.ok w) (hs : v.short) :
    Calls Try.prog 25 #[.pointer none, v.val] w fun e w' => e = .returned (.int .i64 (if v.form then 6 else 3)) ∧ Below w.heap.size w w' := by
  have hb0 := (Below.refl w.heap.size w).alloc (Nat.le_refl _) (.cells #[.int .u32 v.id, .bool v.th, .slice v.po v.P.length v.pc, .slice v.ho v.L.length v.hc] 28)
  have HB := Lib.hid hb0
  have HF := Lib.hid (right_any v (w.alloc (.cells #[.int .u32 v.id, .bool v.th, .slice v.po v.P.length v.pc, .slice v.ho v.L.length v.hc] 28)) (hv.below hb0 (Nat.le_refl _)) (short_len hs).1 (short_len hs).2)
  clear hb0 hv hs
  unfold Vv.val
  cases hf : v.form
  all_goals (
    have HN := Lib.hid hf
    clear hf
    go_enter Try.func25, Try.ntmps25
    go_wp2_with (go_at_call 22; refine HF.out.mono ?_; unfold RRet; rw [HN.out]; rintro e' w1 ⟨rfl, hb1⟩; have H1 := Lib.hid hb1; clear hb1)
    go_ret
    exact ⟨rfl, HB.out.trans (H1.out.mono HB.out.size)⟩)
set_option maxRecDepth 100000 in
set_option maxHeartbeats 2000000 in
theorem nil_law (v : Vv) (w : World) (hv : v.fit w) (hs : v.short) : Calls Try.prog 6 #[v.val] w fun e w' => e = .returned (.bool true) ∧ Below w.heap.size w w' := by
  have hb0 := (Below.refl w.heap.size w).alloc (Nat.le_refl _) (.cells #[.int .u32 v.id, .bool v.th, .slice v.po v.P.length v.pc, .slice v.ho v.L.length v.hc] 28)
  have HV := Lib.hid (hv.below hb0 (Nat.le_refl _))
  have HSH := Lib.hid hs
  have hx := heap_alloc_new w (.cells #[.int .u32 v.id, .bool v.th, .slice v.po v.P.length v.pc, .slice v.ho v.L.length v.hc] 28)
  obtain ⟨c, hc⟩ : ∃ c : Int, (if v.form = true then (6 : Int) else 3) = c := ⟨_, rfl⟩
  have HC := Lib.hid hc
  unfold Vv.val
  obtain ⟨W, hW⟩ : ∃ W, w.alloc (.cells #[.int .u32 v.id, .bool v.th, .slice v.po v.P.length v.pc, .slice v.ho v.L.length v.hc] 28) = W := ⟨_, rfl⟩
  obtain ⟨x, hxx⟩ : ∃ x, w.heap.size = x := ⟨_, rfl⟩
  rw [hW] at HV hx hb0
  have HB0 := Lib.hid hb0
  rw [hxx] at hx HB0 ⊢
  have hxl := (Array.getElem?_eq_some_iff.1 hx).1
  obtain ⟨x0, x1, x2, x3⟩ : W.cell? ⟨x, 0, none⟩ = some (.int .u32 v.id) ∧ W.cell? ⟨x, 1, none⟩ = some (.bool v.th) ∧ W.cell? ⟨x, 2, none⟩ = some (.slice v.po v.P.length v.pc) ∧ W.cell? ⟨x, 3, none⟩ = some (.slice v.ho v.L.length v.hc) := by simp [World.cell?, hx]
  have HXL := Lib.hid (show x ≤ W.heap.size by omega)
  have HX := Lib.hid (show Below W.heap.size W W.drew from (Below.refl _ W).drew)
  have U := And.intro x0 (And.intro x1 (And.intro x2 x3))
  clear hb0 hv hs hx hc
  go_enter Try.func6, Try.ntmps6
  go_wp2_with fail
  go_region_held3 (fun w' => w'.cell? ⟨x, 0, none⟩ = some (.int .u32 v.id) ∧ w'.cell? ⟨x, 1, none⟩ = some (.bool v.th) ∧ w'.cell? ⟨x, 2, none⟩ = some (.slice v.po v.P.length v.pc) ∧ w'.cell? ⟨x, 3, none⟩ = some (.slice v.ho v.L.length v.hc))
    (first | exact ⟨x0, x1, x2, x3⟩ | exact U)
    (first
      | (go_at_call 9; refine (awake_any _).mono ?_; rintro e' w1 ⟨rfl, hb1⟩; have HX := Lib.hid (HX.out.trans (hb1.mono HX.out.size)); have U := four_on x0 x1 x2 x3 (fun k hk => HX.out.block k (hk ▸ hxl)); clear hb1)
      | (go_at_call 21; refine (twin_any v _ (HV.out.ok.below HX.out (Nat.le_refl _)) HSH.out).mono ?_; intro e' w1 ht; obtain ⟨u, rfl, i1, i2, i3, i4, hu, hb1⟩ := ht.vv (HV.out.ok.below HX.out (Nat.le_refl _)); have HUF := Lib.hid (show u.form = v.form from by unfold Vv.form; rw [i1, i2, i3, i4]); have HU := Lib.hid (show u.fit w1 from ⟨hu, by rw [i3]; exact HV.out.kp, by rw [i4]; exact HV.out.kl⟩); have HX := Lib.hid (HX.out.trans (hb1.mono HX.out.size)); have U := four_on x0 x1 x2 x3 (fun k hk => HX.out.block k (hk ▸ hxl)); clear hb1 ht hu i1 i2 i3 i4)
      | (go_at_call 20; refine (put20_nil u _ HU.out).mono ?_; rw [HUF.out, HC.out]; rintro e' w1 ⟨rfl, hb1⟩; have HX := Lib.hid (HX.out.trans (hb1.mono HX.out.size)); have U := four_on x0 x1 x2 x3 (fun k hk => HX.out.block k (hk ▸ hxl)); clear hb1)
      | (go_at_call 25; refine (docput_nil v _ (HV.out.ok.below HX.out (Nat.le_refl _)) HSH.out).mono ?_; rw [HC.out]; rintro e' w1 ⟨rfl, hb1⟩; (try have HU := Lib.hid (HU.out.below hb1 (Nat.le_refl _))); have HX := Lib.hid (HX.out.trans (hb1.mono HX.out.size)); have U := four_on x0 x1 x2 x3 (fun k hk => HX.out.block k (hk ▸ hxl)); clear hb1)
      | (go_at_call 23; refine (list_nil _).mono ?_; rintro e' w1 ⟨rfl, rfl⟩)
      | (go_at_call 24; refine (of_nil _ _).mono ?_; rintro e' w1 ⟨rfl, rfl⟩))
  all_goals (
    go_wp2_with fail
    go_ret
    exact ⟨rfl, HB0.out.trans (HX.out.mono HXL.out)⟩)
end Go.Proofs.Ytgjjfodogkcmmaa.Gh
