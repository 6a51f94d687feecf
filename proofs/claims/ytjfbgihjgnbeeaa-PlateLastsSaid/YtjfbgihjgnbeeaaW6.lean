/- plate: slices.Backward over the writes, as a range over a function has them. -/
import Derived.Test.YtjfbgihjgnbeeaaA4
namespace Go.Proofs.Ytjfbgihjgnbeeaa.Pl
open Go Go.RowKit Go.Shelf
attribute [local go_sem] Oper.semAt_some
def bk (L : List Ent) : List (Nat × Ent) := (L.zipIdx.map fun p => (p.2, p.1)).reverse
theorem bk_at {L : List Ent} {pre rest : List (Nat × Ent)} {x : Nat × Ent} (h : bk L = pre ++ x :: rest) : x.1 = rest.length ∧ L[rest.length]? = some x.2 := by
  have e : L.zipIdx.map (fun p => (p.2, p.1)) = rest.reverse ++ x :: pre.reverse := by
    have := congrArg List.reverse h
    simpa [bk] using this
  have h1 : (L.zipIdx.map (fun p => (p.2, p.1)))[rest.length]? = some x := by
    rw [e, List.getElem?_append_right (by simp)]
    simp
  rw [List.getElem?_map, List.getElem?_zipIdx] at h1
  cases hl : L[rest.length]? with
  | none => rw [hl] at h1; simp at h1
  | some y =>
    rw [hl] at h1
    simp at h1
    subst h1
    simp
theorem bk_len (L : List Ent) : (bk L).length = L.length := by simp [bk]
/-- All below n₀ but block bm stands. -/
def KpB (n₀ bm : Nat) (A B : World) : Prop := ∀ k, k < n₀ → k ≠ bm → B.heap[k]? = A.heap[k]?
theorem kpB_t {n₀ bm : Nat} {A B C : World} (h : KpB n₀ bm A B) (k : KpB n₀ bm B C) : KpB n₀ bm A C := fun i hi hb => (k i hi hb).trans (h i hi hb)
def idx : List (Nat × Ent) → Int
  | [] => -1
  | _ :: r => r.length
theorem idx_len (l : List (Nat × Ent)) : idx l = (l.length : Int) - 1 := by cases l <;> simp [idx]
def encB (x : Nat × Ent) : Array Value := #[.int .i64 x.1, .agg x.2.cells]
set_option maxRecDepth 100000 in
set_option maxHeartbeats 2000000 in
theorem back_in (n : Nat) (hn : 1 ≤ n) (l Bn g cap bm n₀ : Nat) (ao : Option Addr) (L : List Ent) (J Jx : List (Nat × Ent) → World → Prop) (W : World)
    (hY : ∀ pre x W, J pre W → pre.length < L.length → YieldAt Fence.wide (n - 1) Try.prog l (encB x) W fun e W' =>
      (e = .returned (.bool true) ∧ J (pre ++ [x]) W' ∧ KpB n₀ bm W W') ∨ (e = .returned (.bool false) ∧ Jx (pre ++ [x]) W'))
    (hBn : W.cell? ⟨Bn, 0, none⟩ = some (.slice ao L.length cap)) (hao : L ≠ [] → ao = some ⟨g, 0, none⟩ ∧ RowAt W g L) (hL : L.length ≤ 1000000) (hB1 : Bn < n₀) (hB2 : Bn ≠ bm) (hg1 : g < n₀) (hg2 : g ≠ bm) (h0 : J [] W) :
    CallsIn Fence.wide n Try.prog 48 #[.func (.yield l) #[] #[], .pointer (some ⟨Bn, 0, none⟩)] W fun e W' => (∃ v, e = .returned v) ∧
      ((∃ ys, ys = bk L ∧ J ys W') ∨ (∃ pre, pre <+: bk L ∧ Jx pre W')) := by
  have HY := Lib.hid hY
  have HA := Lib.hid hao
  have HLn := Lib.hid (bk_len L)
  have hl0 : (0 : Int) ≤ (L.length : Int) := by omega
  have H0 := Lib.hid h0
  have HB := Lib.hid (And.intro hB1 (And.intro hB2 (And.intro hg1 hg2)))
  clear hY hao hB1 hB2 hg1 hg2 h0
  refine callsIn_of_wp Try.func48 rfl trivial ?_ rfl
  simp only [Try.ntmps48, List.size_toArray, List.length_cons, List.length_nil, Nat.reduceAdd, Nat.reduceSub, Array.replicate_succ, Array.replicate_zero, List.push_toArray, List.append_toArray, List.nil_append, List.cons_append]
  gi_wp2
  gi_loopw [3] (fun i wr => ∃ pre rest : List (Nat × Ent), i = .int .i64 (idx rest) ∧ bk L = pre ++ rest ∧ J pre wr ∧ wr.cell? ⟨Bn, 0, none⟩ = some (.slice ao L.length cap) ∧ (L ≠ [] → RowAt wr g L)) (fun i _ => (intOf i + 1).toNat)
  case atStart =>
    exact ⟨[], bk L, by rw [idx_len, HLn.out], rfl, H0.out, hBn, fun h => (HA.out h).2⟩
  case round =>
    obtain ⟨pre, rest, rfl, hx, hJs, hc, hrow⟩ := hrel
    have HX := Lib.hid hx
    have HR := Lib.hid hrow
    have HJ := Lib.hid hJs
    clear hx hrow hJs hBn
    cases rest with
    | nil =>
      simp only [idx] at *
      gi_wp2
      go_end0
      exact ⟨⟨_, rfl⟩, .inl ⟨pre, by rw [HX.out]; simp, HJ.out⟩⟩
    | cons x rest =>
      obtain ⟨hx1, hx2⟩ := bk_at HX.out
      obtain ⟨k, t⟩ := x
      obtain rfl : k = rest.length := hx1
      simp only at hx2
      have hlt : rest.length < L.length := (List.getElem?_eq_some_iff.1 hx2).1
      have hne : L ≠ [] := fun e => by rw [e] at hlt; simp at hlt
      obtain ⟨ea, _⟩ := HA.out hne
      have hrow := HR.out hne rest.length t hx2
      have hpre : pre.length < L.length := by have := congrArg List.length HX.out; rw [HLn.out, List.length_append] at this; simp at this; omega
      obtain ⟨fn, tmps, assign, body, hy, hR⟩ := HY.out pre (rest.length, t) wr HJ.out hpre
      have HRR := Lib.hid hR
      have HROW := Lib.hid hrow
      have HNE := Lib.hid hne
      subst ea
      have hlt' : (rest.length : Int) < (L.length : Int) := by omega
      have HLT := Lib.hid hlt
      clear hR hrow hne hx2 hpre hlt HY HA
      simp only [idx, encB] at *
      gi_wp2_with (first
        | (refine wpListIn_turns rfl (fun c h => by cases h) rfl (exec_idx66 (x := .tmp 13) (y := .tmp 14) rfl rfl rfl HLT.out _) ?_)
        | (refine wpListIn_turns rfl (fun c h => by cases h) rfl (exec_load_mid 84 (.tmp 15) rfl g (rest.length * 129) rfl t.cells.toList _ HROW.out Try.underlying84 rfl (by rw [Array.length_toList, t.size]; exact size84)) ?_))
      refine HRR.out.mono ?_
      rintro e W3 (⟨rfl, hJ3, hk3⟩ | ⟨rfl, hJx3⟩)
      · have hc3 := (World.cell?_of_block (a := ⟨Bn, 0, none⟩) (hk3 Bn HB.out.1 HB.out.2.1)).trans hc
        have hr3 : RowAt W3 g L := (HR.out HNE.out).kept (hk3 g HB.out.2.2.1 HB.out.2.2.2)
        have HR3 := Lib.hid hr3
        have HJ3 := Lib.hid hJ3
        clear hk3 hr3 hJ3
        gi_wp2
        go_roundw
        case rel => exact ⟨pre ++ [(rest.length, t)], rest, by cases rest <;> simp, by rw [HX.out]; simp, HJ3.out, hc3, fun _ => HR3.out⟩
        case measure => simp [intOf]
      · have HJ3 := Lib.hid hJx3
        clear hJx3
        gi_wp2
        refine bodyPost_ret (results_none rfl _ _ _) rfl ?_
        exact ⟨⟨_, rfl⟩, .inr ⟨pre ++ [(rest.length, t)], ⟨rest, by rw [HX.out]; simp⟩, HJ3.out⟩⟩
theorem back_stops (n : Nat) (hn : 1 ≤ n) (Bn g cap bm n₀ : Nat) (ao : Option Addr) (L : List Ent) (w : World) (hB : Bn < w.heap.size) (hBn : w.cell? ⟨Bn, 0, none⟩ = some (.slice ao L.length cap)) (hao : L ≠ [] → ao = some ⟨g, 0, none⟩ ∧ RowAt w g L) (hL : L.length ≤ 1000000)
    (hB1 : Bn < n₀) (hB2 : Bn ≠ bm) (hg0 : g < w.heap.size) (hg1 : g < n₀) (hg2 : g ≠ bm) :
    SeqStopsK Fence.wide n Try.prog 48 #[.pointer (some ⟨Bn, 0, none⟩)] encB (KpB n₀ bm) (fun ys => ys = bk L) (fun pre => pre <+: bk L) L.length w := fun l J Jx W hW _ _ hY h0 =>
  back_in n hn l Bn g cap bm n₀ ao L J Jx W hY ((hW.cell (p := ⟨Bn, 0, none⟩) hB).trans hBn) (fun h => ⟨(hao h).1, (hao h).2.kept (hW.block g hg0)⟩) hL hB1 hB2 hg1 hg2 h0
theorem backward (v : Value) (w : World) (hv : ∃ ao n c, v = .slice ao n c) : Calls Try.prog 40 #[v] w fun e w' => e = .returned (.func (.func 48) #[] #[.pointer (some ⟨w.heap.size, 0, none⟩)]) ∧ w.alloc (.cells #[v] 66) = w' := by
  obtain ⟨ao, n, c, rfl⟩ := hv
  have hmf : ∀ (fn : Fn) (first cap : Array Value) (w : World), (Instr.makeFunc fn first cap).run Try.prog w = .ok (.func fn first cap) w := fun _ _ _ _ => rfl
  go_enter Try.func40, Try.ntmps40
  go_wp2
  go_ret
  exact ⟨rfl, rfl⟩
end Go.Proofs.Ytjfbgihjgnbeeaa.Pl
