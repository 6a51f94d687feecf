/- credit: Back, walked. -/
import Derived.Test.YtapofbiflkfocaaA4
namespace Go.Proofs.Ytapofbiflkfocaa.Cr
open Go Go.RowKit
theorem setV_add (C : TK → Bool) (k : TK) : setV (add C k) = upd (setV C) k (some (.agg #[])) := by
  funext j
  unfold setV add upd
  by_cases h : j = k <;> simp [h]
set_option maxRecDepth 100000 in
theorem Pool.look {w w' : World} {p a n : Nat} {o : Int} {C : TK → Bool} (h : Pool w p a n o C) (hb : Below w.heap.size w w') {k : TK} (hk : InK k) :
    (Instr.lookup 43 (.map (some a)) (.agg #[.int .u8 k.1, .int .u64 k.2]) true).run Try.prog w' = .ok (.tuple #[.agg #[], .bool (C k)]) w' := by
  have h1 := (h.below hb).came.look_ok Try.underlying43 (zero48 w') hk
  rw [show ((setV C) k).getD (.agg #[]) = .agg #[] by unfold setV; cases C k <;> rfl, show ((setV C) k).isSome = C k by unfold setV; cases C k <;> rfl] at h1
  exact h1
set_option maxRecDepth 100000 in
theorem back_again {w : World} {p a n : Nat} {o : Int} {C : TK → Bool} (h : Pool w p a n o C) {k : TK} (hk : InK k) (hC : C k = true) (c : Int) :
    Calls Try.prog 11 #[.pointer (some ⟨p, 0, none⟩), .int .u8 k.1, .int .u64 k.2, .int .u64 c] w fun e w' => e = .returned (.tuple #[.bool false, .int .i64 0]) ∧ Below w.heap.size w w' := by
  have b1 : Below w.heap.size w (w.alloc (.cells #[.int .u8 k.1, .int .u64 k.2] 47)) := (Below.refl _ w).alloc (Nat.le_refl _) _
  have HB := Lib.hid b1
  have hl1 := h.look b1 hk
  have hl2 := h.look b1.drew hk
  have hl3 := h.look ((b1.alloc b1.size (.cells #[] 48)).drew) hk
  rw [hC] at hl1 hl2 hl3
  obtain ⟨c0, c1, cf⟩ := h.cells
  have lt := h.lt.1
  clear h hC b1
  go_enter Try.func11, Try.ntmps11
  go_wp2_with fail
  go_region
  all_goals (
    go_wp2_with fail
    go_ret2
    exact ⟨rfl, (HB.out.alloc HB.out.size _).drew⟩)
theorem set_block {w : World} {b i : Nat} {cs : Array Value} {t : TypeId} {v : Value} (h : w.heap[b]? = some (.cells cs t (0, 0))) : (w.setCell ⟨b, i, none⟩ v).heap[b]? = some (.cells (cs.setIfInBounds i v) t (0, 0)) := by
  show (w.heap.modify b _)[b]? = _
  rw [Array.getElem?_modify, if_pos rfl, h]
  rfl
theorem Pool.out {w : World} {p a n : Nat} {o : Int} {C : TK → Bool} (h : Pool w p a n o C) {c : Int} (h0 : 0 ≤ c) (h1 : c ≤ o) : Pool (w.setCell ⟨p, 0, none⟩ (.int .u64 (o - c))) p a n (o - c) C :=
  ⟨(set_block h.cell).trans rfl, h.came.on (turned_set w p 0 _) (fun e => h.ne e.symm), by omega, by have := h.o1; omega⟩
set_option maxRecDepth 100000 in
theorem Pool.upd {w : World} {p a n : Nat} {o : Int} {C : TK → Bool} (h : Pool w p a n o C) {k : TK} (hk : InK k) (hn : n < maxLen) :
    ∃ w', (Instr.mapUpdate 43 (.map (some a)) (.agg #[.int .u8 k.1, .int .u64 k.2]) (.agg #[])).run Try.prog w = .ok () w' ∧ Pool w' p a (n + 1) o (add C k) ∧ w.grownBy w' (some a) := by
  obtain ⟨D, h1, h2⟩ := h.came
  obtain ⟨w', hrun, hown, hg⟩ := h1.update (key := kv k) (val := .agg #[]) law47 Try.underlying43 hn (key47 hk) (d := .held (.agg #[])) (ps := []) rfl
  refine ⟨w', hrun, ⟨(hg.block p h.lt.1 (fun e => h.ne (Option.some.inj e))).trans h.cell, ?_, h.o0, h.o1⟩, hg⟩
  rw [setV_add]
  exact MapV.stored hk h1 h2 hown
/-- What a pool's calls turn. -/
def PZ (p a : Nat) : Nat → Prop := fun k => k = p ∨ k = a
set_option maxRecDepth 100000 in
set_option maxHeartbeats 1000000 in
theorem back_first {w : World} {p a n : Nat} {o : Int} {C : TK → Bool} (h : Pool w p a n o C) {k : TK} (hk : InK k) (hC : C k = false) {c : Int} (h0 : 0 ≤ c) (h1 : c ≤ o) (hn : n < maxLen) :
    Calls Try.prog 11 #[.pointer (some ⟨p, 0, none⟩), .int .u8 k.1, .int .u64 k.2, .int .u64 c] w fun e w' => e = .returned (.tuple #[.bool true, .int .i64 0]) ∧ Pool w' p a (n + 1) (o - c) (add C k) ∧ Turned (PZ p a) w w' := by
  have b1 : Below w.heap.size w (w.alloc (.cells #[.int .u8 k.1, .int .u64 k.2] 47)) := (Below.refl _ w).alloc (Nat.le_refl _) _
  have hl1 := h.look b1 hk
  have hl2 := h.look b1.drew hk
  have b2 := (b1.alloc b1.size (.cells #[] 48)).drew
  have hl3 := h.look b2 hk
  rw [hC] at hl1 hl2 hl3
  obtain ⟨W, hW⟩ : ∃ W, ((w.alloc (.cells #[.int .u8 k.1, .int .u64 k.2] 47)).alloc (.cells #[] 48)).drew = W := ⟨_, rfl⟩
  rw [hW] at b2 hl3
  have hp2 := h.below b2
  have hp3 := (hp2.out h0 h1).on (turned_drew (fun _ => False) _) id id
  obtain ⟨W', hrun, hp4, hg⟩ := hp3.upd hk hn
  have hm0 : W.heap[w.heap.size]? = some (.cells #[.int .u8 k.1, .int .u64 k.2] 47 (0, 0)) := by
    rw [← hW]
    exact (heap_alloc_old _ _ (by simp)).trans (heap_alloc_new _ _)
  have hne : p ≠ w.heap.size := by have := h.lt.1; omega
  have hm1 := ((grown_set W p 0 (.int .u64 (o - c))).block w.heap.size (Array.getElem?_eq_some_iff.1 hm0).1 (fun e => hne (Option.some.inj e).symm)).trans hm0
  have k0 : (W.setCell ⟨p, 0, none⟩ (.int .u64 (o - c))).cell? ⟨w.heap.size, 0, none⟩ = some (.int .u8 k.1) ∧ (W.setCell ⟨p, 0, none⟩ (.int .u64 (o - c))).cell? ⟨w.heap.size, 1, none⟩ = some (.int .u64 k.2) := by simp [World.cell?, hm1]
  obtain ⟨k0, k1⟩ := k0
  obtain ⟨g0, g1⟩ : W.cell? ⟨w.heap.size, 0, none⟩ = some (.int .u8 k.1) ∧ W.cell? ⟨w.heap.size, 1, none⟩ = some (.int .u64 k.2) := by simp [World.cell?, hm0]
  obtain ⟨d0, d1, df⟩ := (hp2.out h0 h1).cells
  obtain ⟨e0, e1, ef⟩ := hp2.cells
  have HT : Hid (Turned (PZ p a) w W') := Lib.hid ((below_any b2).trans (((turned_set W p 0 (.int .u64 (o - c))).mono (fun i (hi : i = p) => .inl hi)).trans ((turned_drew _ _).then (.of_grown (G := PZ p a) hg (fun k e => .inr (Option.some.inj e).symm))) (fun _ => .inl)) (fun _ => .inl))
  have HP := Lib.hid hp4
  obtain ⟨c0, c1, cf⟩ := h.cells
  have lt := h.lt.1
  have hgt : decide (o < c) = false := by simpa using h1
  have hwr : IntKind.u64.wrap (o - c) = o - c := by have := h.o1; simp [IntKind.wrap, IntKind.bits, IntKind.signed]; omega
  clear hp2 hp3 hp4 hm0 hm1 hg h hC b1 b2
  go_enter Try.func11, Try.ntmps11
  go_wp2_with fail
  go_region
  all_goals (
    go_wp2_with fail
    go_region
    go_wp2_with fail
    go_ret2
    exact ⟨rfl, HP.out, HT.out⟩)
end Go.Proofs.Ytapofbiflkfocaa.Cr
