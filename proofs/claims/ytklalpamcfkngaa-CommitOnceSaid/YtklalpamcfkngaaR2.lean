/- commit: the document's run, node, every, less, walked. -/
import Derived.Test.YtklalpamcfkngaaR1
import Derived.Test.YtklalpamcfkngaaA8
namespace Go.Proofs.Ytklalpamcfkngaa.Cm
open Go Go.RowKit
theorem box3 (w : World) (t : TK) : (w.alloc (.cells #[.int .u8 t.1, .int .u32 t.2.1, .int .u32 t.2.2] 33)).cell? ⟨w.heap.size, 0, none⟩ = some (.int .u8 t.1) ∧ (w.alloc (.cells #[.int .u8 t.1, .int .u32 t.2.1, .int .u32 t.2.2] 33)).cell? ⟨w.heap.size, 1, none⟩ = some (.int .u32 t.2.1) ∧ (w.alloc (.cells #[.int .u8 t.1, .int .u32 t.2.1, .int .u32 t.2.2] 33)).cell? ⟨w.heap.size, 2, none⟩ = some (.int .u32 t.2.2) :=
  ⟨World.cell?_alloc_new w _ 33 0, World.cell?_alloc_new w _ 33 1, World.cell?_alloc_new w _ 33 2⟩
theorem Below.cell3 {B : Nat} {w w' : World} (hb : Below B w w') {g : Nat} (hg : g < B) {x y z : Value} (h : w.cell? ⟨g, 0, none⟩ = some x ∧ w.cell? ⟨g, 1, none⟩ = some y ∧ w.cell? ⟨g, 2, none⟩ = some z) : w'.cell? ⟨g, 0, none⟩ = some x ∧ w'.cell? ⟨g, 1, none⟩ = some y ∧ w'.cell? ⟨g, 2, none⟩ = some z :=
  ⟨(hb.cell (p := ⟨g, 0, none⟩) hg).trans h.1, (hb.cell (p := ⟨g, 1, none⟩) hg).trans h.2.1, (hb.cell (p := ⟨g, 2, none⟩) hg).trans h.2.2⟩
theorem run_nil (t : TK) (w : World) : Calls Try.prog 38 #[.pointer none, .agg #[.int .u8 t.1, .int .u32 t.2.1, .int .u32 t.2.2]] w fun e w' => e = .returned (.int .i64 (-1)) ∧ Below w.heap.size w w' := by
  go_enter Try.func38, Try.ntmps38
  go_wp2
  refine wp_loop_rounds 1 ?_
  rw [rounds_succ]
  go_wp2
  go_ret
  exact ⟨rfl, (Below.refl _ w).alloc (Nat.le_refl _) _⟩
section
variable {w : World} {B q : Nat} {F : Nat → Prop} {rv tv : Value} {CL : List RC} {TT : TL} {t : TK}
theorem key_ne (h : (CL.map (·.t)).Nodup) {i j : Nat} {c d : RC} (hi : CL[i]? = some c) (hj : CL[j]? = some d) (hne : i ≠ j) : eqK d.t c.t = false := by
  cases hq : eqK d.t c.t
  · rfl
  · rw [eqK_iff] at hq
    exfalso
    have h1 : (CL.map (·.t))[i]? = some c.t := by simp [hi]
    have h2 : (CL.map (·.t))[j]? = some d.t := by simp [hj]
    rw [hq] at h2
    have hl := (List.getElem?_eq_some_iff.1 h1).1
    exact hne ((List.getElem?_inj hl h).1 (h1.trans h2.symm))
/-- Between two rounds: nothing ahead is t. -/
theorem run_any (h : RefAt w B F q rv tv CL TT) (r : Int) (N : Nat) (hr : (∃ (i : Nat) (c : RC), CL[i]? = some c ∧ c.t = t ∧ r = i ∧ N = i) ∨ ((∀ c ∈ CL, eqK c.t t = false) ∧ r = -1 ∧ N = CL.length)) (hl : CL.length ≤ 1000000) :
    Calls Try.prog 38 #[.pointer (some ⟨q, 0, none⟩), .agg #[.int .u8 t.1, .int .u32 t.2.1, .int .u32 t.2.2]] w fun e w' => e = .returned (.int .i64 r) ∧ Below w.heap.size w w' := by
  have hb0 : Below w.heap.size w (w.alloc (.cells #[.int .u8 t.1, .int .u32 t.2.1, .int .u32 t.2.2] 33)) := (Below.refl _ w).alloc (Nat.le_refl _) _
  have H1 := Lib.hid (h.below hb0)
  have HB := Lib.hid hb0
  have HX := Lib.hid (box3 w t)
  have hne : ∀ k d, k < N → CL[k]? = some d → eqK d.t t = false := by
    intro k d hk hd
    rcases hr with ⟨i, c, hc, rfl, _, rfl⟩ | ⟨hn, _, _⟩
    · exact key_ne h.keys hc hd (by omega)
    · exact hn d (List.mem_of_getElem? hd)
  have hN : N ≤ CL.length := by
    rcases hr with ⟨i, c, hc, _, _, rfl⟩ | ⟨_, _, rfl⟩
    · exact Nat.le_of_lt (List.getElem?_eq_some_iff.1 hc).1
    · exact Nat.le_refl _
  have HN := Lib.hid (And.intro hne hr)
  have hql := h.hi q h.fq
  clear h hb0 hne hr
  obtain ⟨L, hL⟩ : ∃ L, CL.length = L := ⟨_, rfl⟩
  rw [hL] at hl hN
  have HL := Lib.hid hL
  clear hL
  have hg := guard33
  have he := eql33
  go_enter Try.func38, Try.ntmps38
  go_wp2
  generalize w.alloc (.cells #[.int .u8 t.1, .int .u32 t.2.1, .int .u32 t.2.2] 33) = W0 at H1 HB HX ⊢
  have HW := Lib.hid (Below.refl W0.heap.size W0)
  go_loopw [5] (fun u wr => ∃ k : Nat, k ≤ N ∧ u = .int .i64 k ∧ Hid (Below W0.heap.size W0 wr)) (fun u _ => N + 1 - (intOf u).toNat)
  case atStart => exact ⟨0, by omega, rfl, HW⟩
  case round =>
    obtain ⟨k, hk, rfl, HR⟩ := hrel
    clear HW
    have HRF := Lib.hid (H1.out.below HR.out)
    obtain ⟨b0, b1, b2⟩ := Below.cell3 HR.out (World.block_lt_of_cell? W0 ⟨w.heap.size, 0, none⟩ HX.out.1) HX.out
    obtain ⟨q0, q1⟩ := HRF.out.cells
    by_cases hlt : k < L
    · obtain ⟨d, hd⟩ : ∃ d, CL[k]? = some d := ⟨_, List.getElem?_eq_getElem (by rw [HL.out]; exact hlt)⟩
      obtain ⟨g, cap, e, hat⟩ := HRF.out.at hd
      rw [e, HL.out] at q0
      obtain ⟨⟨c0, c1, c2⟩, _⟩ := hat
      by_cases hkN : k < N
      · have hq := HN.out.1 k d hkN hd
        unfold eqK at hq
        clear e hd
        go_upto_region 4 with fail
        go_quiet (fail)
        go_wp2
        have HR2 := Lib.hid (HR.out.trans ((drewN_below wr nq).mono HR.out.size))
        go_roundw
        case rel => exact ⟨k + 1, by omega, by go_num, HR2⟩
        case measure => simp [intOf]; omega
      · obtain rfl : k = N := by omega
        have hq : eqK d.t t = true ∧ r = k := by
          rcases HN.out.2 with ⟨i, c, hc, rfl, h1, h2⟩ | ⟨_, _, h2⟩
          · subst h2
            rw [hc] at hd
            cases hd
            exact ⟨(eqK_iff _ _).2 rfl, h1⟩
          · rw [HL.out] at h2; omega
        obtain ⟨hq, rfl⟩ := hq
        unfold eqK at hq
        clear e hd
        go_upto_region 4 with fail
        go_quiet (fail)
        go_wp2
        go_ret
        exact ⟨rfl, HB.out.trans ((HR.out.trans ((drewN_below wr nq).mono HR.out.size)).mono HB.out.size)⟩
    · have hr1 : r = -1 := by
        rcases HN.out.2 with ⟨i, c, hc, _, _, h2⟩ | ⟨_, h1, _⟩
        · have := (List.getElem?_eq_some_iff.1 hc).1
          rw [HL.out] at this; omega
        · exact h1
      subst hr1
      obtain ⟨ao, cap, e, _, _⟩ := own_slice HRF.out.rrow
      rw [e, HL.out] at q0
      clear e
      go_wp2
      go_ret
      exact ⟨rfl, HB.out.trans (HR.out.mono HB.out.size)⟩
end
end Go.Proofs.Ytklalpamcfkngaa.Cm
