/- ghost: a map's keys, sorted; List, walked. -/
import Derived.Test.YtgjjfodogkcmmaaT7
namespace Go.Proofs.Ytgjjfodogkcmmaa.Gh
open Go Go.RowKit Ytgjjfodogkcmmaa.So
theorem cs_u32 (ss : List Int) : cs ss.length (fun k => ss.getD k 0) = u32s ss := by
  apply List.ext_getElem?
  intro i
  by_cases h : i < ss.length
  · rw [cs_at _ h]; simp [u32s, h]
  · rw [List.getElem?_eq_none (by rw [cs_len]; omega), List.getElem?_eq_none (by rw [u32s_len]; omega)]
theorem cs_map (n : Nat) (f : So.Fn) : cs n f = u32s ((List.range n).map f) := by simp [cs, u32s]
theorem range_getD (ss : List Int) : (List.range ss.length).map (fun k => ss.getD k 0) = ss := by
  apply List.ext_getElem?
  intro i
  by_cases h : i < ss.length
  · simp [h]
  · rw [List.getElem?_eq_none (by simp; omega), List.getElem?_eq_none (by omega)]
/-- Numbers that rise. -/
def Rise (l : List Int) : Prop := l.Pairwise (· < ·)
theorem up_rise {n : Nat} {f : So.Fn} (h : Up 0 n f) (hn : ((List.range n).map f).Nodup) : Rise ((List.range n).map f) := by
  unfold Rise
  rw [List.pairwise_map]
  unfold List.Nodup at hn
  rw [List.pairwise_map] at hn
  have hr : (List.range n).Pairwise (· < ·) := List.pairwise_lt_range
  have : (List.range n).Pairwise (fun i j => f i ≠ f j ∧ i < j) := hn.and hr
  refine List.Pairwise.imp_of_mem (fun {i j} hi hj hp => ?_) this
  have h1 := h i j (Nat.zero_le _) (Nat.le_of_lt hp.2) (List.mem_range.1 hj)
  have := hp.1
  omega
/-- A slice that is known by its cells, sorted: what slices.Sort leaves of it. -/
theorem sortK_any (B : Nat) (v : Value) (ss : List Int) (w : World) (h : w.ownsRow B 24 1 v ss.length (u32s ss)) (hn : ss.Nodup) (hl : ss.length ≤ 1000000000000) :
    Calls Try.prog 34 #[v] w fun e w' => e = .returned (.tuple #[]) ∧ ∃ ss', ss'.Perm ss ∧ ss'.length = ss.length ∧ Rise ss' ∧ w'.ownsRow B 24 1 v ss'.length (u32s ss') ∧ Turned (fun g => v.ownBlock = some g) w w' := by
  rcases h.2 with ⟨rfl, h0⟩ | ⟨g, cap, cur, rfl, h1, h2, h3, h4, h5, h6⟩
  · have : ss = [] := List.eq_nil_of_length_eq_zero h0
    subst this
    refine (sort_none none 0 w).mono ?_
    rintro e _ ⟨rfl, rfl⟩
    exact ⟨rfl, [], List.Perm.refl _, rfl, List.Pairwise.nil, h, .refl _ _⟩
  · have hO : So.Own w B g cap ss.length (fun k => ss.getD k 0) := by
      unfold So.Own
      rw [cs_u32]
      exact h
    refine (sort_any B g cap ss.length _ w hO (by omega)).mono ?_
    rintro e w' ⟨rfl, f', hs, hu, ho, ht⟩
    have hp := hs.perm
    rw [range_getD] at hp
    refine ⟨rfl, _, hp, by simp, up_rise hu (hp.nodup_iff.2 hn), ?_, ht.mono (fun k hk => by simp [Value.ownBlock, hk])⟩
    have := ho
    unfold So.Own at this
    rw [cs_map] at this
    simpa using this
/-- What slices.Sorted of a map's keys answers. -/
def SortedOf (D0 : DataW Value) (w : World) (e : Ending) (w' : World) : Prop :=
  ∃ ao cap ss, e = .returned (.slice ao ss.length cap) ∧ AllKeys D0 ss ∧ Rise ss ∧ w'.ownsRow w.heap.size 24 1 (.slice ao ss.length cap) ss.length (u32s ss) ∧ Below w.heap.size w w'
theorem sorted_any (Bm b nn : Nat) (D0 : DataW Value) (w : World) (hBm : Bm < w.heap.size) (hm : w.cell? ⟨Bm, 0, none⟩ = some (.map (some b))) (hown : w.ownsMap Try.prog 24 tok b nn D0) (hnn : nn ≤ 1000000000000) :
    Calls Try.prog 40 #[.func (.func 54) #[] #[.pointer (some ⟨Bm, 0, none⟩)]] w fun e w' => SortedOf D0 w e w' := by
  have hsz : Maps.size D0 ≤ 1000000000000 := Nat.le_trans hown.size_le hnn
  have HA := Lib.hid (collect_any Bm b nn D0 w hBm hm hown hnn)
  clear hBm hm hown
  go_enter Try.func40, Try.ntmps40
  go_wp2_with (fail)
  refine HA.out.mono ?_
  rintro e w1 ⟨v, ss, rfl, hss, ho, hb⟩
  obtain ⟨ao1, cap1, rfl, _⟩ := own_slice ho
  have H1 := Lib.hid (And.intro hss (And.intro ho hb))
  clear hss ho hb
  go_wp2_with (fail)
  refine (sortK_any w.heap.size _ ss w1 H1.out.2.1 H1.out.1.1 (Nat.le_trans H1.out.1.2.2.2 hsz)).mono ?_
  rintro e w2 ⟨rfl, ss', hp, hlen, hr, ho, ht⟩
  have H2 := Lib.hid (show SortedOf D0 w (.returned (.slice ao1 ss.length cap1)) w2 from ⟨ao1, cap1, ss', by rw [hlen], ⟨hp.nodup_iff.2 H1.out.1.1, fun x hx => H1.out.1.2.1 x (hp.mem_iff.1 hx), fun x hx => (hp.mem_iff).trans (H1.out.1.2.2.1 x hx), by rw [hlen]; exact H1.out.1.2.2.2⟩, hr, by rw [← hlen] at ho; exact ho, H1.out.2.2.trans (ht.below H1.out.2.2.size (fun g hg => (own_obj H1.out.2.1 hg).1))⟩)
  clear hp hlen hr ho ht
  go_wp2_with (fail)
  go_ret
  exact H2.out
end Go.Proofs.Ytgjjfodogkcmmaa.Gh
