/- commit: a list of nodes, and how many of the four are in it. -/
import Derived.Test.YtklalpamcfkngaaR8
import Derived.Test.YtklalpamcfkngaaC2
namespace Go.Proofs.Ytklalpamcfkngaa.Cm
open Go Go.RowKit
theorem memF_cons (x : Nat) (L : List Int) : memF ((x : Int) :: L) = tru (memF L) x := by
  funext i
  unfold memF tru
  by_cases h : i = x
  · subst h; simp
  · have : (i : Int) ≠ (x : Int) := by omega
    simp [h, this]
theorem cnt_mem : ∀ (L : List Int), (∀ x ∈ L, 0 ≤ x ∧ x ≤ 3) → cnt4 (memF L) ≤ L.length ∧ (cnt4 (memF L) = L.length ↔ L.Nodup)
  | [], _ => ⟨by decide, by simp only [List.length_nil, List.nodup_nil, iff_true]; rfl⟩
  | x :: L, h => by
    obtain ⟨x0, x3⟩ := h x (List.mem_cons_self ..)
    obtain ⟨j, rfl⟩ : ∃ j : Nat, x = j := ⟨x.toNat, by omega⟩
    obtain ⟨ih1, ih2⟩ := cnt_mem L (fun y hy => h y (List.mem_cons_of_mem _ hy))
    rw [memF_cons, cnt_tru _ (by omega), List.length_cons, List.nodup_cons]
    have hm : memF L j = true ↔ (j : Int) ∈ L := by simp [memF]
    by_cases hj : memF L j = true
    · rw [if_pos hj]
      exact ⟨by omega, ⟨fun e => by omega, fun ⟨e, _⟩ => absurd (hm.1 hj) e⟩⟩
    · rw [if_neg hj]
      exact ⟨by omega, ⟨fun e => ⟨fun e2 => hj (hm.2 e2), ih2.1 (by omega)⟩, fun ⟨_, e⟩ => by rw [ih2.2 e]⟩⟩
theorem cnt_filter (f : Nat → Bool) : ((List.range 4).filter f).length = cnt4 f := by
  rw [show List.range 4 = [0, 1, 2, 3] from rfl]
  unfold cnt4 one
  cases h0 : f 0 <;> cases h1 : f 1 <;> cases h2 : f 2 <;> cases h3 : f 3 <;> simp [List.filter, h0, h1, h2, h3]
/-- Those of the first k nodes that are in the list. -/
def risk (L : List Int) (k : Nat) : List Int := ((List.range k).filter (memF L)).map fun i : Nat => (i : Int)
theorem risk_succ (L : List Int) (k : Nat) : risk L (k + 1) = risk L k ++ if memF L k = true then [(k : Int)] else [] := by
  unfold risk
  rw [List.range_succ, List.filter_append, List.map_append]
  by_cases h : memF L k = true <;> simp [h]
theorem risk_len (L : List Int) (k : Nat) : (risk L k).length ≤ k := by
  unfold risk
  rw [List.length_map]
  exact Nat.le_trans (List.length_filter_le _ _) (by simp)
theorem risk_cnt (L : List Int) : (risk L 4).length = cnt4 (memF L) := by unfold risk; rw [List.length_map, cnt_filter]
theorem risk_nodes (L : List Int) : risk L 4 = nodesI (newRun L) := rfl
end Go.Proofs.Ytklalpamcfkngaa.Cm
