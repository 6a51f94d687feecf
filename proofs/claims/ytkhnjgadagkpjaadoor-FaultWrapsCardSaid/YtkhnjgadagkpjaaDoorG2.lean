/- fault: the roots of a chain, as a range over a function has them. -/
import Derived.Test.YtkhnjgadagkpjaaDoorG1
import Derived.RangeFuncNested
import Derived.RangeFuncBound
import Derived.RangeFuncCalls
import Derived.RangeFuncLeaves
import Derived.Shelf.Abstract
import Derived.Shelf.RegionOpen
import Derived.WalkKit
import Derived.OwnWalkIn
import Derived.TacticsInMore
import Derived.LoopNIn
import Derived.LoopIn
namespace Go.Proofs.YtkhnjgadagkpjaaDoor.Flt
open Go Go.RowKit Go.Stop Go.Shelf
attribute [local go_sem] Oper.semAt_some
theorem grown_of_below {a w : World} (h : Below a.heap.size a w) : a.grownBy w none := ⟨h.os, h.tape, h.output, h.size, fun i hi _ => h.block i hi⟩
theorem abides_below {β : Type} {B : Nat} {J : β → World → Prop} (h : AbidesFrom B J) {s : β} {W W' : World} (hs : J s W) (hb : Below W.heap.size W W') : J s W' := h s W W' none hs (grown_of_below hb) (fun r e => by cases e)
set_option maxRecDepth 100000 in
set_option maxHeartbeats 2000000 in
theorem roots_in (n : Nat) (hn : 1 ≤ n) (l Bn b : Nat) (n₀ : Nat) (t : TypeId) (x : Value) (L : List (Int × Int)) (r : Int) (J Jx : List Int → World → Prop) (W : World) (hJ : AbidesFrom W.heap.size J)
    (hY : ∀ pre y W, J pre W → pre.length < 1 → YieldAt Fence.wide (n - 1) Tryd.prog l #[.iface 30 (.int .i64 y)] W fun e W' =>
      (e = .returned (.bool true) ∧ J (pre ++ [y]) W' ∧ Below n₀ W W') ∨ (e = .returned (.bool false) ∧ Jx (pre ++ [y]) W'))
    (hBn : W.cell? ⟨Bn, 0, none⟩ = some (.slice (some ⟨b, 0, none⟩) 1 1)) (hb : b < W.heap.size) (hc : W.cell? ⟨b, 0, none⟩ = some (.iface t x)) (hC : Chain W (.iface t x) L r) (h0 : J [] W) :
    CallsIn Fence.wide n Tryd.prog 34 #[.func (.yield l) #[] #[], .pointer (some ⟨Bn, 0, none⟩)] W fun e W' => (∃ v, e = .returned v) ∧
      ((∃ ys, ys = [r] ∧ J ys W') ∨ (∃ pre, pre <+: [r] ∧ Jx pre W')) := by
  have hcl := Lib.hid (clone_one b t x W hb hc)
  have HC := Lib.hid hC
  have HJ := Lib.hid hJ
  have HY := Lib.hid hY
  have a3 := no76
  clear hC hJ hY hc
  refine callsIn_of_wp Tryd.func34 rfl trivial ?_ rfl
  simp only [Tryd.ntmps34, List.size_toArray, List.length_cons, List.length_nil, Nat.reduceAdd, Nat.reduceSub, Array.replicate_succ, Array.replicate_zero, List.push_toArray, List.append_toArray, List.nil_append, List.cons_append]
  gi_wp2
  refine ⟨trivial, (callsIn_wide.2 hcl.out).mono ?_⟩
  rintro e w1 ⟨g, c, rfl, ho, hb1⟩
  have hj1 := abides_below HJ.out h0 hb1
  have hc1 : w1.cell? ⟨g, 0, none⟩ = some (.iface t x) := by have := ho.cellAt 0 (by decide); simpa using this
  have hC1 := HC.out.on hb1 (Nat.le_refl _)
  have hs1 := hb1.size
  have HD := Lib.hid (down_links _ L r w1 hC1)
  clear hb1 hC1
  gi_wp2
  refine wpIn_loop_rounds 2 ?_
  rw [roundsIn_succ]
  gi_wp2
  refine ⟨trivial, (callsIn_wide.2 HD.out).mono ?_⟩
  rintro e w2 ⟨rfl, rfl⟩
  gi_wp2
  refine ⟨trivial, (callsIn_wide.2 (unwrap_errno r _)).mono ?_⟩
  rintro e w3 ⟨rfl, hb3⟩
  have hj3 := abides_below HJ.out hj1 hb3
  obtain ⟨fn, tmps, assign, body, hy, hR⟩ := HY.out [] r w3 hj3 (by simp)
  gi_wp2
  refine hR.mono ?_
  rintro e W3 (⟨rfl, hJ3, hk3⟩ | ⟨rfl, hJx3⟩)
  · gi_wp2
    rw [roundsIn_succ]
    gi_wp2
    go_end0
    exact ⟨⟨_, rfl⟩, .inl ⟨[] ++ [r], rfl, hJ3⟩⟩
  · gi_wp2
    refine bodyPost_ret (results_none rfl _ _ _) rfl ?_
    exact ⟨⟨_, rfl⟩, .inr ⟨[] ++ [r], by simp, hJx3⟩⟩
theorem roots_stops (n : Nat) (hn : 1 ≤ n) (Bn b n₀ : Nat) (t : TypeId) (x : Value) (L : List (Int × Int)) (r : Int) (w : World) (hB : Bn < w.heap.size) (hBn : w.cell? ⟨Bn, 0, none⟩ = some (.slice (some ⟨b, 0, none⟩) 1 1)) (hb : b < w.heap.size)
    (hc : w.cell? ⟨b, 0, none⟩ = some (.iface t x)) (hC : Chain w (.iface t x) L r) :
    SeqStopsK Fence.wide n Tryd.prog 34 #[.pointer (some ⟨Bn, 0, none⟩)] (fun y : Int => #[Value.iface 30 (.int .i64 y)]) (Below n₀) (fun ys => ys = [r]) (fun pre => pre <+: [r]) 1 w := fun l J Jx W hW hJ _ hY h0 =>
  roots_in n hn l Bn b n₀ t x L r J Jx W hJ hY ((hW.cell (p := ⟨Bn, 0, none⟩) hB).trans hBn) (Nat.lt_of_lt_of_le hb hW.size) ((hW.cell (p := ⟨b, 0, none⟩) hb).trans hc) (hC.on hW (Nat.le_refl _)) h0
end Go.Proofs.YtkhnjgadagkpjaaDoor.Flt
