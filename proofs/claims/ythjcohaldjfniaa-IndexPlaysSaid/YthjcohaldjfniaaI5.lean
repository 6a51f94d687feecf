/- index: slices.Delete of one item, walked. -/
import Derived.Test.YthjcohaldjfniaaI4
namespace Go.Proofs.Ythjcohaldjfniaa.Ix
open Go Go.RowKit
open Pq (Pg pv fq)
open It (fl)
theorem step_append_room2 {ops : Array Oper} {o : Oper} {a : Act} {w : World} {K : Act → World → Prop} {Q : Exit → Act → World → Prop} {E : Prop} (hgd : o.guard = none) (d s : Operand)
    (ho : o.op = .call { callee := .builtin .append, args := #[d, s], argTypes := #[52, 52] }) (sp : Option Addr) (n cap m sc : Nat) (g : Nat) (hd : a.eval d = .slice (some ⟨g, 0, none⟩) n cap) (hs : a.eval s = .slice sp m sc)
    (cur : List Value) (hg : w.heap[g]? = some (.cells cur.toArray 42 (0, 0))) (cs : List Value) (hn : cs.length = m * 2)
    (hpos : 0 < cs.length → ∃ ad, sp = some ad ∧ ∀ j v, cs[j]? = some v → w.cell? (ad.add j) = some v) (hroom : n + m ≤ cap) (hfit : n * 2 + cs.length ≤ cur.length) (h1 : ∀ v ∈ cs, v.oneCell' = true)
    (h : ∀ w', w'.heap[g]? = some (.cells (splice cur (n * 2) cs).toArray 42 (0, 0)) → w.grownBy w' (some g) → K (a.put o.dst (.slice (some ⟨g, 0, none⟩) (n + m) cap)) w') : if Region.wanted o (yielded ops a.tmps) = true then Oper.wp Try.prog o a w K Q else E := by
  have hw : Region.wanted o (yielded ops a.tmps) = true := by simp [Region.wanted, hgd]
  rw [if_pos hw]
  obtain ⟨w', hrun, h2, h3⟩ := It.run_append_room2 w o.type sp n cap m sc g cur hg cs hn hpos hroom hfit h1
  unfold Oper.wp
  simp [execOp, ho, resolve, invoke, builtin, hd, hs, hrun, Result.andThen]
  exact h w' h2 h3
def DelR (t : Pg) (i : Nat) (w : World) (e : Ending) (w' : World) : Prop :=
  e = .returned (pv ⟨t.g, t.cap, t.P.take i ++ t.P.drop (i + 1)⟩) ∧ PgAt w' ⟨t.g, t.cap, t.P.take i ++ t.P.drop (i + 1)⟩ ∧ w.grownBy w' (some t.g)
set_option maxRecDepth 100000 in
set_option maxHeartbeats 1000000 in
theorem delete_any (t : Pg) (i j : Nat) (hj : j = i + 1) (w : World) (h : PgAt w t) (hi : i < t.P.length) (hn : t.P.length ≤ 100000) :
    Calls Try.prog 28 #[pv t, .int .i64 i, .int .i64 j] w (DelR t i w) := by
  obtain ⟨g, cap, P⟩ := t
  obtain ⟨cur, hg, hc, hnc, hcm, ht⟩ := h
  simp only at hg hc hnc hcm ht hi hn
  obtain ⟨n, en⟩ : ∃ n, P.length = n := ⟨_, rfl⟩
  have HP := Lib.hid en
  simp only [pv, en]
  rw [en] at hnc hi hn ht
  have q1 : (j : Int) ≤ (n : Int) := by omega
  have q2 : (n : Int) ≤ (cap : Int) := by omega
  have q3 : ((i : Int) == (j : Int)) = false := beq_eq_false_iff_ne.2 (by omega)
  have q4 : (i : Int) ≤ (cap : Int) := by omega
  have q5 : (j : Int) ≤ (cap : Int) := by omega
  have q6 : (i : Int) ≤ (j : Int) := by omega
  have HG := Lib.hid hg
  have HC := Lib.hid (And.intro hc (And.intro hcm ht))
  have hci : ¬ cap = i := by omega
  have ij : i < j := by omega
  have HJ := Lib.hid hj
  clear hg hc hcm ht en hj
  go_enter Try.func28, Try.ntmps28
  go_upto_region 5 with fail
  have hsrc : ∀ k u, (fl (P.drop j))[k]? = some u → w.cell? ((⟨g, j * 2, none⟩ : Addr).add k) = some u := fun k u hu => by
    rw [Go.WideShapes.add_plain, show w.cell? ⟨g, j * 2 + k, none⟩ = cur[j * 2 + k]? from by simp [World.cell?, HG.out]]
    rw [It.fl_drop, List.getElem?_drop, ← HC.out.2.2, List.getElem?_take] at hu
    split at hu
    · exact hu
    · cases hu
  have HS := Lib.hid hsrc
  have lf : (fl (P.drop j)).length = (n - j) * 2 := by rw [It.fl_len, List.length_drop, HP.out]
  have l1 : (splice cur (i * 2) (fl (P.drop j))).length = cap * 2 := by rw [length_splice _ _ _ (by rw [lf, HC.out.1]; omega), HC.out.1]
  have t1 : (splice cur (i * 2) (fl (P.drop j))).take ((n - 1) * 2) = fl (P.take i ++ P.drop j) := by
    have e := It.splice_head cur (fl (P.drop j)) (i * 2) (by rw [HC.out.1]; omega)
    rw [lf, show i * 2 + (n - j) * 2 = (n - 1) * 2 by have := HJ.out; omega] at e
    rw [e, It.fl_app, It.fl_take, ← HC.out.2.2, List.take_take, Nat.min_eq_left (by omega)]
  have LF := Lib.hid lf
  have LL := Lib.hid (And.intro l1 t1)
  have e9 : (P.take i ++ P.drop j).length = n - 1 := by simp only [List.length_append, List.length_take, List.length_drop, HP.out]; have := HJ.out; omega
  have fin : ∀ w', (∃ cur', w'.heap[g]? = some (.cells (List.toArray cur') 42 (0, 0)) ∧ cur'.length = cap * 2 ∧ cur'.take ((n - 1) * 2) = fl (P.take i ++ P.drop j)) → w.grownBy w' (some g) → DelR ⟨g, cap, P⟩ i w (.returned (.slice (some ⟨g, 0, none⟩) (n - 1) cap)) w' := fun w' ⟨cur', h1, h2, h3⟩ h4 => by
    refine ⟨?_, ⟨cur', h1, h2, ?_, HC.out.2.1, ?_⟩, h4⟩
    all_goals obtain rfl := HJ.out
    · simp only [pv, e9]
    · simp only [e9]; omega
    · simp only [e9]; exact h3
  have Fin := Lib.hid fin
  clear hsrc lf l1 t1 e9 fin
  obtain ⟨d, hd⟩ : ∃ d : Nat, n - j = d := ⟨_, rfl⟩
  rw [hd] at LF
  obtain ⟨y, hy⟩ : ∃ y : Nat, n - 1 = y := ⟨_, rfl⟩
  rw [hy] at LL Fin
  have hid : i + d = y := by have := HJ.out; omega
  have z1 : (y : Int) ≤ (n : Int) := by omega
  have z2 : n - y = 1 := by omega
  have hcy : ¬ cap = y := by omega
  have tail : ∀ w5, w5.heap[g]? = some (.cells (splice cur (i * 2) (fl (P.drop j))).toArray 42 (0, 0)) → w.grownBy w5 (some g) → ∃ w6, (Builtin.clear_ #[52] 0 #[.slice (some ⟨g, y * 2, none⟩) 1 (cap - y)]).run Try.prog w5 = .ok (.tuple #[]) w6 ∧ DelR ⟨g, cap, P⟩ i w (.returned (.slice (some ⟨g, 0, none⟩) y cap)) w6 := by
    intro w5 h5 hg5
    obtain ⟨w6, hrun, hg6, hb6⟩ := It.run_clear2 w5 0 (some ⟨g, y * 2, none⟩) 1 (cap - y) g (y * 2) (splice cur (i * 2) (fl (P.drop j))) 42 h5 (fun _ => rfl) (by rw [LL.out.1]; omega)
    refine ⟨w6, hrun, Fin.out w6 ⟨_, hg6, ?_, ?_⟩ (hg5.trans hb6)⟩
    · rw [length_splice _ _ _ (by rw [It.zs_len, LL.out.1]; omega), LL.out.1]
    · rw [It.splice_take _ _ _ _ (Nat.le_refl _) (by rw [LL.out.1]; omega), LL.out.2]
  have HT := Lib.hid tail
  clear tail
  by_cases hci1 : cap = j
  · obtain rfl : d = 0 := by omega
    obtain rfl : i = y := by omega
    subst hci1
    clear hd hid hy
    go_region_law (refine step_append_room2 (by rfl) (.tmp 22) (.tmp 25) (by rfl) (some ⟨g, 0, none⟩) i cap 0 0 g (by kernel_rfl) (by kernel_rfl) cur HG.out (fl (P.drop cap)) LF.out (fun hp => by rw [LF.out] at hp; omega) (by omega) (by rw [LF.out, HC.out.1]; omega) (It.fl_one _) ?_; intro w5 hg5 hb5; have H5 := Lib.hid (And.intro hg5 hb5); clear hg5 hb5)
    obtain ⟨w6, hrun, h6⟩ := HT.out w5 H5.out.1 (show w.grownBy w5 (some g) from ⟨H5.out.2.os, H5.out.2.tape, H5.out.2.output, H5.out.2.size, H5.out.2.block⟩)
    have H6 := Lib.hid h6
    clear h6
    go_upto_region 7 with (rw [hrun])
    go_wp2_with fail
    go_ret
    exact H6.out
  · have HD := Lib.hid hd
    go_region_law (refine step_append_room2 (by rfl) (.tmp 22) (.tmp 25) (by rfl) (some ⟨g, j * 2, none⟩) i cap d (cap - j) g (by kernel_rfl) (by kernel_rfl) cur HG.out (fl (P.drop j)) LF.out (fun _ => ⟨_, rfl, HS.out⟩) (by have := HD.out; omega) (by rw [LF.out, HC.out.1]; omega) (It.fl_one _) ?_; intro w5 hg5 hb5; have H5 := Lib.hid (And.intro hg5 hb5); clear hg5 hb5)
    obtain ⟨w6, hrun, h6⟩ := HT.out w5 H5.out.1 (show w.grownBy w5 (some g) from ⟨H5.out.2.os, H5.out.2.tape, H5.out.2.output, H5.out.2.size, H5.out.2.block⟩)
    have H6 := Lib.hid h6
    clear h6
    go_upto_region 7 with (rw [hrun])
    go_wp2_with fail
    go_ret
    exact H6.out
end Go.Proofs.Ythjcohaldjfniaa.Ix
