/- ghost: Put of a nil tally, walked. -/
import Derived.Test.YtgjjfodogkcmmaaN2
namespace Go.Proofs.Ytgjjfodogkcmmaa.Gh
open Go Go.RowKit Ytgjjfodogkcmmaa.So Ytgjjfodogkcmmaa.Vl
set_option maxRecDepth 100000 in
set_option maxHeartbeats 2000000 in
theorem put20_nil (v : Vv) (w : World) (hv : v.fit w) :
    Calls Try.prog 20 #[.pointer none, v.val] w fun e w' => e = .returned (.int .i64 (if v.form then 6 else 3)) ∧ Below w.heap.size w w' := by
  have hb0 := (Below.refl w.heap.size w).alloc (Nat.le_refl _) (.cells #[.int .u32 v.id, .bool v.th, .slice v.po v.P.length v.pc, .slice v.ho v.L.length v.hc] 28)
  have HV := Lib.hid (hv.below hb0 (Nat.le_refl _))
  have HB := Lib.hid hb0
  have hx := heap_alloc_new w (.cells #[.int .u32 v.id, .bool v.th, .slice v.po v.P.length v.pc, .slice v.ho v.L.length v.hc] 28)
  unfold Vv.val
  obtain ⟨W, hW⟩ : ∃ W, w.alloc (.cells #[.int .u32 v.id, .bool v.th, .slice v.po v.P.length v.pc, .slice v.ho v.L.length v.hc] 28) = W := ⟨_, rfl⟩
  obtain ⟨x, hxx⟩ : ∃ x, w.heap.size = x := ⟨_, rfl⟩
  rw [hW] at HV HB hx
  have HXX := Lib.hid hxx
  rw [hxx] at hx
  have hxl := (Array.getElem?_eq_some_iff.1 hx).1
  obtain ⟨x0, x1, x2, x3⟩ : W.cell? ⟨x, 0, none⟩ = some (.int .u32 v.id) ∧ W.cell? ⟨x, 1, none⟩ = some (.bool v.th) ∧ W.cell? ⟨x, 2, none⟩ = some (.slice v.po v.P.length v.pc) ∧ W.cell? ⟨x, 3, none⟩ = some (.slice v.ho v.L.length v.hc) := by simp [World.cell?, hx]
  clear hb0 hv hx
  cases hf : v.form
  all_goals (
    have HF := Lib.hid hf
    clear hf
    go_enter Try.func20, Try.ntmps20
    go_wp2_with fail
    go_region_held3 (fun w' => w'.cell? ⟨x, 0, none⟩ = some (.int .u32 v.id) ∧ w'.cell? ⟨x, 1, none⟩ = some (.bool v.th) ∧ w'.cell? ⟨x, 2, none⟩ = some (.slice v.po v.P.length v.pc) ∧ w'.cell? ⟨x, 3, none⟩ = some (.slice v.ho v.L.length v.hc))
      (first | exact ⟨x0, x1, x2, x3⟩ | exact U1 | exact U2)
      (first
        | (go_at_call 35; refine (new35 _).mono ?_; rintro e' w1 ⟨g, p, q, rfl, hn, hb1⟩; have hb1' := (Below.refl _ W).drew.trans hb1; have U1 := four_on x0 x1 x2 x3 (fun k hk => hb1'.block k (hk ▸ hxl)); have HN := Lib.hid (And.intro hn hb1'); clear hn hb1 hb1')
        | (go_at_call 36; refine (put36 _ _ _ _ _ v _ HN.out.1 (HV.out.below HN.out.2 (Nat.le_refl _))).mono ?_; rw [HF.out]; rintro e' w2 ⟨rfl, hb2⟩; have hb2' := (Below.refl W.heap.size W).drew.trans hb2; have U2 := four_on x0 x1 x2 x3 (fun k hk => hb2'.block k (hk ▸ hxl)); have H2 := Lib.hid hb2'; clear hb2 hb2'))
    all_goals (
      go_wp2_with fail
      go_ret
      exact ⟨rfl, by rw [← HXX.out]; exact HB.out.trans (H2.out.mono HB.out.size)⟩))
end Go.Proofs.Ytgjjfodogkcmmaa.Gh
