/- slices.Values over spans, as a range over a function has them. -/
import Derived.Test.YtgbhdccadelcfaaU2
import Derived.RangeFuncNested
import Derived.RangeFuncBound
import Derived.RangeFuncCalls
import Derived.RangeFuncLeaves
import Derived.RangeFuncBox
import Derived.RangeFuncWrites
import Derived.Shelf.Abstract
import Derived.Shelf.RegionOpen
import Derived.WalkKit
import Derived.OwnWalkIn
import Derived.TacticsInMore
import Derived.LoopNIn
import Derived.LoopIn
namespace Go.Proofs.Ytgbhdccadelcfaa.Sp
open Go Go.RowKit Go.Stop Go.Shelf
attribute [local go_sem] Oper.semAt_some
theorem grown_of_below {a w : World} (h : Below a.heap.size a w) : a.grownBy w none := ⟨h.os, h.tape, h.output, h.size, fun i hi _ => h.block i hi⟩
theorem abides_below {β : Type} {B : Nat} {J : β → World → Prop} (h : AbidesFrom B J) {s : β} {W W' : World} (hs : J s W) (hb : Below W.heap.size W W') : J s W' := h s W W' none hs (grown_of_below hb) (fun r e => by cases e)
def encV (x : Int × Int) : Array Value := #[.agg #[.int .u32 x.1, .int .u32 x.2]]
def ValI (L : SL) (J : SL → World → Prop) (m : Nat) (w0 : World) (k : Nat) (wr : World) : Prop := J (L.take k) wr ∧ Below m w0 wr ∧ m ≤ wr.heap.size
set_option maxRecDepth 100000 in
set_option maxHeartbeats 2000000 in
theorem vals_in (n : Nat) (hn : 1 ≤ n) (l Bn m : Nat) (ao : Option Addr) (cap : Nat) (L : SL) (J Jx : SL → World → Prop) (w0 W : World) (hJ : AbidesFrom W.heap.size J)
    (hY : ∀ pre x W, J pre W → pre.length < L.length → YieldAt Fence.wide (n - 1) Try.prog l (encV x) W fun e W' =>
      (e = .returned (.bool true) ∧ J (pre ++ [x]) W' ∧ Below m W W') ∨ (e = .returned (.bool false) ∧ Jx (pre ++ [x]) W'))
    (hBn : W.cell? ⟨Bn, 0, none⟩ = some (.slice ao L.length cap)) (hrd : Rd2 w0 ao L) (h0m : w0.heap.size ≤ m) (hmW : m ≤ W.heap.size) (hw : Below m w0 W) (hL : L.length ≤ 100000) (h0 : J [] W) :
    CallsIn Fence.wide n Try.prog 45 #[.func (.yield l) #[] #[], .pointer (some ⟨Bn, 0, none⟩)] W fun e W' => (∃ v, e = .returned v) ∧
      ((∃ ys, ys = L ∧ J ys W') ∨ (∃ pre, pre <+: L ∧ Jx pre W')) := by
  have HJ := Lib.hid hJ
  have HY := Lib.hid hY
  have HR := Lib.hid hrd
  have HM := Lib.hid h0m
  have HV0 := Lib.hid (show ValI L J m w0 0 W from ⟨by simpa using h0, hw, hmW⟩)
  obtain ⟨N, hN⟩ : ∃ N, L.length = N := ⟨_, rfl⟩
  rw [hN] at hL hBn
  have HN := Lib.hid hN
  clear hJ hY hrd h0m hmW hw h0 hN
  refine callsIn_of_wp Try.func45 rfl trivial ?_ rfl
  simp only [Try.ntmps45, List.size_toArray, List.length_cons, List.length_nil, Nat.reduceAdd, Nat.reduceSub, Array.replicate_succ, Array.replicate_zero, List.push_toArray, List.append_toArray, List.nil_append, List.cons_append]
  gi_wp2
  gi_loopw [7] (fun i wr => ∃ k : Nat, k ≤ N ∧ i = .int .i64 k ∧ Hid (ValI L J m w0 k wr)) (fun i _ => N - (intOf i).toNat)
  case atStart => exact ⟨0, Nat.zero_le _, rfl, HV0⟩
  case round =>
    obtain ⟨k, hk, rfl, HK⟩ := hrel
    clear HV0 hBn
    by_cases hlt : k < N
    · obtain ⟨t, ht⟩ : ∃ t, L[k]? = some t := ⟨_, List.getElem?_eq_getElem (by have := HN.out; omega)⟩
      obtain ⟨b, off, rfl, hb, c0, c1⟩ := (HR.out.on HK.out.2.1 HM.out) k t ht
      have HA := Lib.hid (show Below wr.heap.size wr (wr.alloc (.cells #[.int .u32 t.1, .int .u32 t.2] 46)) from (Below.refl _ _).alloc (Nat.le_refl _) _)
      obtain ⟨fn, tmps, assign, body, hy, hR⟩ := HY.out (L.take k) t (wr.alloc (.cells #[.int .u32 t.1, .int .u32 t.2] 46)) (abides_below HJ.out HK.out.1 HA.out) (by have := HN.out; rw [List.length_take]; omega)
      have HRR := Lib.hid hR
      have HT := Lib.hid ht
      clear hR ht
      simp only [encV] at *
      gi_wp2
      refine HRR.out.mono ?_
      rintro e W3 (⟨rfl, hJ3, hk3⟩ | ⟨rfl, hJx3⟩)
      · have HV := Lib.hid (show ValI L J m w0 (k + 1) W3 from ⟨by rw [take_next HT.out]; exact hJ3, (HK.out.2.1.alloc HK.out.2.2 (.cells #[.int .u32 t.1, .int .u32 t.2] 46)).trans hk3, Nat.le_trans HK.out.2.2 (Nat.le_trans HA.out.size hk3.size)⟩)
        clear hJ3 hk3
        gi_wp2
        go_roundw
        case rel => exact ⟨k + 1, by omega, rfl, HV⟩
        case measure => simp [intOf]; omega
      · have HX := Lib.hid hJx3
        clear hJx3
        gi_wp2
        refine bodyPost_ret (results_none rfl _ _ _) rfl ?_
        exact ⟨⟨_, rfl⟩, .inr ⟨L.take k ++ [t], ⟨L.drop (k + 1), by rw [← take_next HT.out, List.take_append_drop]⟩, HX.out⟩⟩
    · have hV := HK.out.1
      rw [List.take_of_length_le (by have := HN.out; omega)] at hV
      have HV := Lib.hid hV
      clear hV
      gi_wp2
      go_end0
      exact ⟨⟨_, rfl⟩, .inl ⟨L, rfl, HV.out⟩⟩
theorem vals_stops (n : Nat) (hn : 1 ≤ n) (Bn m : Nat) (ao : Option Addr) (cap : Nat) (L : SL) (w0 w : World) (hBn : w.cell? ⟨Bn, 0, none⟩ = some (.slice ao L.length cap)) (hrd : Rd2 w0 ao L) (h0m : w0.heap.size ≤ m) (hmw : m ≤ w.heap.size) (hw : Below m w0 w) (hL : L.length ≤ 100000) :
    SeqStopsK Fence.wide n Try.prog 45 #[.pointer (some ⟨Bn, 0, none⟩)] encV (Below m) (fun ys => ys = L) (fun pre => pre <+: L) L.length w := fun l J Jx W hW hJ _ hY h0 =>
  vals_in n hn l Bn m ao cap L J Jx w0 W hJ hY ((hW.cell (p := ⟨Bn, 0, none⟩) (World.block_lt_of_cell? _ _ hBn)).trans hBn) hrd h0m (Nat.le_trans hmw hW.size) (hw.trans (hW.mono hmw)) hL h0
theorem values_any (ao : Option Addr) (n cap : Nat) (w : World) : Calls Try.prog 35 #[.slice ao n cap] w fun e w' => e = .returned (.func (.func 45) #[] #[.pointer (some ⟨w.heap.size, 0, none⟩)]) ∧ w.alloc (.cells #[.slice ao n cap] 37) = w' := by
  have hmf : ∀ (fn : Fn) (first cap : Array Value) (w : World), (Instr.makeFunc fn first cap).run Try.prog w = .ok (.func fn first cap) w := fun _ _ _ _ => rfl
  go_enter Try.func35, Try.ntmps35
  go_wp2
  go_ret
  exact ⟨rfl, rfl⟩
end Go.Proofs.Ytgbhdccadelcfaa.Sp
