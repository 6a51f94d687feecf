/- plate: way and over, walked. -/
import Derived.Test.YtjfbgihjgnbeeaaA3
import Derived.Deep.CutRange
import Derived.Outline
namespace Go.Proofs.Ytjfbgihjgnbeeaa.Pl
open Go Go.RowKit
theorem way_none (ao : Option Addr) (len cap : Nat) (k : Nat) (w : World) (h : len ≤ k) (hk : k < 4611686018427387904) : Calls Try.prog 42 #[.agg #[.slice ao len cap], .int .i64 k] w fun e w' => e = .returned (.int .i64 0) ∧ Below w.heap.size w w' := by
  have hd : decide (len ≤ k) = true := by simpa using h
  have hd2 : decide ((len : Int) ≤ (k : Int)) = true := by simp; omega
  go_enter Try.func42, Try.ntmps42
  go_wp2
  go_ret
  exact ⟨rfl, (Below.refl _ _).alloc (Nat.le_refl _) _⟩
theorem way_some (ad : Addr) (len cap : Nat) (k : Nat) (x : Int) (w : World) (h : k < len) (hl : len < 4611686018427387904) (hc : w.cell? (ad.add k) = some (.int .u8 x)) (x0 : 0 ≤ x) (x1 : x ≤ 255) : Calls Try.prog 42 #[.agg #[.slice (some ad) len cap], .int .i64 k] w fun e w' => e = .returned (.int .i64 (x % 4)) ∧ Below w.heap.size w w' := by
  have hd : decide (len ≤ k) = false := by simpa using h
  have hd2 : decide ((len : Int) ≤ (k : Int)) = false := by simp; omega
  have hcc : (w.alloc (.cells #[.slice (some ad) len cap] 53)).cell? (ad.add k) = some (.int .u8 x) := (World.grownBy_alloc w _ none).cell hc (by simp)
  go_enter Try.func42, Try.ntmps42
  go_wp2
  go_ret
  exact ⟨ret_of (by omega) _, (Below.refl _ _).alloc (Nat.le_refl _) _⟩
theorem exec_slice82_lo {a : Act} {o : Oper} {x : Operand} (ho : o.op = .slice 82 x none (some (.const (.int .i64 32))) none) {g : Nat} (hx : a.eval x = .pointer (some ⟨g, 0, none⟩)) (w : World) :
    (execOp a.eval o).run Try.prog w = .ok (.value (.slice (some ⟨g, 0, none⟩) 32 64)) w := by
  have u := run_underlying Try.underlying82 w
  have h : (Instr.sliceAt 82 (.pointer (some ⟨g, 0, none⟩)) none (some (.int .i64 32)) none).run Try.prog w = .ok (.slice (some ⟨g, 0, none⟩) 32 64) w := by
    simp [u, go_sem]
  simp [execOp, ho, hx, Result.andThen]
  simp [go_sem, h]
theorem exec_slice82_hi {a : Act} {o : Oper} {x : Operand} (ho : o.op = .slice 82 x (some (.const (.int .i64 32))) none none) {g : Nat} (hx : a.eval x = .pointer (some ⟨g, 0, none⟩)) (w : World) :
    (execOp a.eval o).run Try.prog w = .ok (.value (.slice (some ⟨g, 32, none⟩) 32 32)) w := by
  have u := run_underlying Try.underlying82 w
  have h : (Instr.sliceAt 82 (.pointer (some ⟨g, 0, none⟩)) (some (.int .i64 32)) none none).run Try.prog w = .ok (.slice (some ⟨g, 32, none⟩) 32 32) w := by
    simp [u, go_sem]
  simp [execOp, ho, hx, Result.andThen]
  simp [go_sem, h]
/-- What a page has when a write of c comes over it in that way. -/
def Ov (p c : Array Value) (how : Int) : Array Value :=
  if how = 1 then c else if how = 2 then (splice p.toList 0 (c.toList.take 32)).toArray else if how = 3 then (splice p.toList 32 (c.toList.drop 32)).toArray else p
theorem splice_page {p c : Array Value} {off : Nat} {l : List Value} (hp : IsPage p) (hc : ∀ x ∈ l, x ∈ c.toList) (hcp : IsPage c) (h : off + l.length ≤ 64) : IsPage (splice p.toList off l).toArray := by
  have hl := length_splice p.toList off l (by simp [hp.1]; omega)
  refine ⟨by simp only [List.size_toArray, hl]; simp [hp.1], fun x hx => ?_⟩
  simp only [splice] at hx
  rcases List.mem_append.1 hx with hx | hx
  · exact hp.2 x (List.mem_of_mem_take hx)
  · rcases List.mem_append.1 hx with hx | hx
    · exact hcp.2 x (hc x hx)
    · exact hp.2 x (List.mem_of_mem_drop hx)
theorem ov_page {p c : Array Value} (hp : IsPage p) (hc : IsPage c) (how : Int) : IsPage (Ov p c how) := by
  unfold Ov
  split
  · exact hc
  split
  · exact splice_page hp (fun x hx => List.mem_of_mem_take hx) hc (by simp [hc.1])
  split
  · exact splice_page hp (fun x hx => List.mem_of_mem_drop hx) hc (by simp [hc.1])
  · exact hp
theorem three_blocks (w : World) (p c z : Array Value) (t : TypeId) :
    (((w.alloc (.cells p t)).alloc (.cells c t)).alloc (.cells z t)).heap[w.heap.size]? = some (.cells p t (0, 0)) ∧ (((w.alloc (.cells p t)).alloc (.cells c t)).alloc (.cells z t)).heap[w.heap.size + 1]? = some (.cells c t (0, 0)) ∧
      (((w.alloc (.cells p t)).alloc (.cells c t)).alloc (.cells z t)).heap[w.heap.size + 2]? = some (.cells z t (0, 0)) := by
  have e1 : (w.alloc (.cells p t)).heap.size = w.heap.size + 1 := by simp
  have e2 : ((w.alloc (.cells p t)).alloc (.cells c t)).heap.size = w.heap.size + 2 := by simp
  refine ⟨?_, ?_, ?_⟩
  · rw [heap_alloc_old _ _ (by omega), heap_alloc_old _ _ (by omega), heap_alloc_new]
  · rw [heap_alloc_old _ _ (by omega)]
    have := heap_alloc_new (w.alloc (.cells p t)) (.cells c t)
    rwa [e1] at this
  · have := heap_alloc_new ((w.alloc (.cells p t)).alloc (.cells c t)) (.cells z t)
    rwa [e2] at this
theorem exec_box82 {a : Act} {o : Oper} {x : Operand} (ho : o.op = .box 82 x) {c : Array Value} (hx : a.eval x = .agg c) (w : World) : (execOp a.eval o).run Try.prog w = .ok (.value (.pointer (some ⟨w.heap.size, 0, none⟩))) (w.alloc (.cells c 82)) := by
  have h : (Instr.box 82 (.agg c)).run Try.prog w = .ok (.pointer (some ⟨w.heap.size, 0, none⟩)) (w.alloc (.cells c 82)) := by simp [Instr.box, newVar, Result.andThen, go_sem, Value.cells]
  simp [execOp, ho, hx, h, Result.andThen]
set_option maxRecDepth 100000 in
theorem over_any (p c : Array Value) (how : Int) (w : World) (hp : IsPage p) (hc : IsPage c) :
    Calls Try.prog 41 #[.agg p, .agg c, .int .i64 how] w fun e w' => e = .returned (.agg (Ov p c how)) ∧ Below w.heap.size w w' := by
  obtain ⟨k0, k1, k2⟩ := three_blocks w p c Zp 82
  have hbel : Below w.heap.size w (((w.alloc (.cells p 82)).alloc (.cells c 82)).alloc (.cells Zp 82)) := (((Below.refl _ _).alloc (Nat.le_refl _) _).alloc (by simp) _).alloc (by simp; omega) _
  have e1 : (w.alloc (.cells p 82)).heap.size = w.heap.size + 1 := by simp
  have e2 : ((w.alloc (.cells p 82)).alloc (.cells c 82)).heap.size = w.heap.size + 2 := by simp
  have HP := Lib.hid hp
  have HC := Lib.hid hc
  have K0 := Lib.hid k0
  have K1 := Lib.hid k1
  have K2 := Lib.hid k2
  have HB := Lib.hid hbel
  clear hp hc k0 k1 k2 hbel
  have fin : ∀ (tm : Act) (w1 : World) (X Y : Array Value), IsPage X → Below w.heap.size w w1 → w1.heap[w.heap.size + 2]? = some (.cells Zp 82 (0, 0)) → tm.tmps.getD 6 undef = .pointer (some ⟨w.heap.size + 2, 0, none⟩) → tm.defers = [] → X = Y →
      bodyPost Try.prog Try.f41 (fun e w' => e = .returned (.agg Y) ∧ Below w.heap.size w w') .ret tm (w1.setRow (w.heap.size + 2) X) := by
    intro tm w1 X Y hX hb hz ht hd e
    subst e
    exact bodyPost_ret (v := .agg X) (results_cell_row rfl _ _ (w.heap.size + 2) 82 X (0, 0) _ ht (setRow_heap _ _ _ _ _ _ hz) Try.underlying82 rfl (by rw [hX.1]; exact size82)) hd ⟨rfl, below_setRow hb (by omega) X⟩
  have FIN := Lib.hid fin
  clear fin
  by_cases h1 : how = 1
  · subst h1
    go_enter Try.func41, Try.ntmps41
    go_wp2_with (first
      | (refine wpList_turns rfl (exec_alloc82 rfl _) ?_)
      | (refine wpList_load_row rfl 82 (.tmp 4) rfl (w.heap.size + 1) rfl 82 c (0, 0) _ K1.out Try.underlying82 rfl (by rw [HC.out.1]; exact size82) ?_)
      | (refine wpList_store_row rfl 82 (.tmp 6) (.tmp 10) rfl (w.heap.size + 2) c rfl rfl 82 Zp K2.out (by rw [HC.out.1]; exact size82) (by rw [HC.out.1, zp_page.1]) HC.out.one ?_))
    exact FIN.out _ _ _ _ HC.out HB.out K2.out rfl rfl (by simp [Ov])
  · have d1 : (how == 1) = false := by simpa using h1
    have H1 := Lib.hid h1
    clear h1
    by_cases h2 : how = 2
    · subst h2
      have hcs : (c.toList.take 32).length = 32 := by simp [HC.out.1]
      have k0' := setRow_heap _ _ _ (splice p.toList 0 (c.toList.take 32)).toArray _ _ K0.out
      have k2' := (setRow_other _ w.heap.size (w.heap.size + 2) (splice p.toList 0 (c.toList.take 32)).toArray (by omega)).trans K2.out
      have HX := Lib.hid (splice_page (off := 0) HP.out (fun x (hx : x ∈ c.toList.take 32) => List.mem_of_mem_take hx) HC.out (by rw [hcs]; decide))
      have K0' := Lib.hid k0'
      have K2' := Lib.hid k2'
      have HCS := Lib.hid hcs
      clear k0' k2' hcs
      go_enter Try.func41, Try.ntmps41
      go_wp2_with (first
        | (refine wpList_turns rfl (exec_alloc82 rfl _) ?_))
      refine still_tail 2 (by kernel_rfl) (by kernel_rfl) ?_
      simp only [List.take_succ_cons, List.take_zero, List.drop_succ_cons, List.drop_zero]
      refine wpStill_value rfl (exec_slice82_lo (x := .tmp 3) rfl rfl _) ?_
      refine wpStill_value rfl (exec_slice82 (x := .tmp 4) rfl rfl _) ?_
      refine wpStill_nil ?_
      refine wpList_copy_own rfl (.tmp 13) (.tmp 14) 31 31 rfl 5 Try.underlying31 (by kernel_rfl) w.heap.size 0 32 64 ⟨w.heap.size + 1, 0, none⟩ 64 64 rfl rfl p 82 K0.out (c.toList.take 32) (by rw [HCS.out]; rfl) ?_ (by rw [HCS.out, HP.out.1]; decide) (fun v hv => HC.out.ones v (List.mem_of_mem_take hv)) ?_
      · intro j v hv
        rw [Go.WideShapes.add_plain, Nat.zero_add]
        have hj : j < 32 := by have := (List.getElem?_eq_some_iff.1 hv).1; rw [HCS.out] at this; exact this
        rw [List.getElem?_take_of_lt hj] at hv
        exact (cell_of_row _ _ j c 82 (0, 0) K1.out).trans (by simpa using hv)
      go_wp2_with (first
        | (refine wpList_load_row rfl 82 (.tmp 3) rfl w.heap.size rfl 82 (splice p.toList 0 (c.toList.take 32)).toArray (0, 0) _ K0'.out Try.underlying82 rfl (by rw [HX.out.1]; exact size82) ?_)
        | (refine wpList_store_row rfl 82 (.tmp 6) (.tmp 21) rfl (w.heap.size + 2) (splice p.toList 0 (c.toList.take 32)).toArray rfl rfl 82 Zp K2'.out (by rw [HX.out.1]; exact size82) (by rw [HX.out.1, zp_page.1]) HX.out.one ?_))
      exact FIN.out _ _ _ _ HX.out (below_setRow HB.out.drew (Nat.le_refl _) _) K2'.out rfl rfl (by simp [Ov])
    · have d2 : (how == 2) = false := by simpa using h2
      have H2 := Lib.hid h2
      clear h2
      by_cases h3 : how = 3
      · subst h3
        have hcs : (c.toList.drop 32).length = 32 := by simp [HC.out.1]
        have k0' := setRow_heap _ _ _ (splice p.toList 32 (c.toList.drop 32)).toArray _ _ K0.out
        have k2' := (setRow_other _ w.heap.size (w.heap.size + 2) (splice p.toList 32 (c.toList.drop 32)).toArray (by omega)).trans K2.out
        have HX := Lib.hid (splice_page (off := 32) HP.out (fun x (hx : x ∈ c.toList.drop 32) => List.mem_of_mem_drop hx) HC.out (by rw [hcs]; decide))
        have K0' := Lib.hid k0'
        have K2' := Lib.hid k2'
        have HCS := Lib.hid hcs
        clear k0' k2' hcs
        go_enter Try.func41, Try.ntmps41
        go_wp2_with (first
          | (refine wpList_turns rfl (exec_alloc82 rfl _) ?_))
        refine still_tail 2 (by kernel_rfl) (by kernel_rfl) ?_
        simp only [List.take_succ_cons, List.take_zero, List.drop_succ_cons, List.drop_zero]
        refine wpStill_value rfl (exec_slice82_hi (x := .tmp 3) rfl rfl _) ?_
        refine wpStill_value rfl (exec_slice82_hi (x := .tmp 4) rfl rfl _) ?_
        refine wpStill_nil ?_
        refine wpList_copy_own rfl (.tmp 18) (.tmp 19) 31 31 rfl 5 Try.underlying31 (by kernel_rfl) w.heap.size 32 32 32 ⟨w.heap.size + 1, 32, none⟩ 32 32 rfl rfl p 82 K0.out (c.toList.drop 32) (by rw [HCS.out]; rfl) ?_ (by rw [HCS.out, HP.out.1]; decide) (fun v hv => HC.out.ones v (List.mem_of_mem_drop hv)) ?_
        · intro j v hv
          rw [Go.WideShapes.add_plain]
          rw [List.getElem?_drop] at hv
          exact (cell_of_row _ _ (32 + j) c 82 (0, 0) K1.out).trans (by simpa using hv)
        go_wp2_with (first
          | (refine wpList_load_row rfl 82 (.tmp 3) rfl w.heap.size rfl 82 (splice p.toList 32 (c.toList.drop 32)).toArray (0, 0) _ K0'.out Try.underlying82 rfl (by rw [HX.out.1]; exact size82) ?_)
          | (refine wpList_store_row rfl 82 (.tmp 6) (.tmp 21) rfl (w.heap.size + 2) (splice p.toList 32 (c.toList.drop 32)).toArray rfl rfl 82 Zp K2'.out (by rw [HX.out.1]; exact size82) (by rw [HX.out.1, zp_page.1]) HX.out.one ?_))
        exact FIN.out _ _ _ _ HX.out (below_setRow HB.out.drew (Nat.le_refl _) _) K2'.out rfl rfl (by simp [Ov])
      · have d3 : (how == 3) = false := by simpa using h3
        have H3 := Lib.hid h3
        clear h3
        go_enter Try.func41, Try.ntmps41
        go_wp2_with (first
          | (refine wpList_turns rfl (exec_alloc82 rfl _) ?_)
          | (refine wpList_load_row rfl 82 (.tmp 3) rfl w.heap.size rfl 82 p (0, 0) _ K0.out Try.underlying82 rfl (by rw [HP.out.1]; exact size82) ?_)
          | (refine wpList_store_row rfl 82 (.tmp 6) (.tmp 21) rfl (w.heap.size + 2) p rfl rfl 82 Zp K2.out (by rw [HP.out.1]; exact size82) (by rw [HP.out.1, zp_page.1]) HP.out.one ?_))
        exact FIN.out _ _ _ _ HP.out HB.out K2.out rfl rfl (by simp [Ov, H1.out, H2.out, H3.out])
end Go.Proofs.Ytjfbgihjgnbeeaa.Pl
