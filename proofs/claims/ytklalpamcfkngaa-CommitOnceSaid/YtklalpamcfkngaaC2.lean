/- commit: a map of the call's own from nodes to letters; the mathematics of votes. -/
import Derived.Test.YtklalpamcfkngaaC1
namespace Go.Proofs.Ytklalpamcfkngaa.Cm
open Go Go.RowKit
def one (b : Bool) : Nat := if b then 1 else 0
def cnt4 (v : Nat → Bool) : Nat := one (v 0) + one (v 1) + one (v 2) + one (v 3)
theorem law5 : Maps.Keyed Try.prog 5 := Maps.int_keyed Try.underlying5
theorem wf8 {j : Nat} (h : j < 4) : (Lit.int .u8 (j : Int)).wf = true := by
  simp [Lit.wf, show IntKind.u8.min = 0 from rfl, show IntKind.u8.max = 255 from rfl]; omega
theorem key5 {j : Nat} (h : j < 4) : keyOf Try.prog 5 (.int .u8 (j : Int)) = some (.int .u8 (j : Int)) := Maps.keyOf_int_mk Try.underlying5 (wf8 h)
/-- Who is in the map. -/
def MapB (w : World) (b n : Nat) (v : Nat → Bool) : Prop :=
  ∃ D, w.ownsMap Try.prog 5 tok b n D ∧ (∀ i : Nat, i < 4 → D.atKey (.int .u8 (i : Int)) (.held (.bool false)) = .held (.bool (v i)) ∧ Maps.has D (.int .u8 (i : Int)) = v i) ∧ Maps.size D = cnt4 v
theorem zero4 (w : World) : (zeroValue 4).run Try.prog w = .ok (.bool false) w := by kernel_rfl
theorem MapB.made (w : World) : MapB (w.alloc (.map #[] 0)) w.heap.size 0 noF := ⟨.map [], World.ownsMap_made _ _ _ _, fun _ _ => ⟨rfl, rfl⟩, rfl⟩
theorem MapB.look {w : World} {b n j : Nat} {v : Nat → Bool} (h : MapB w b n v) (hj : j < 4) : (Instr.lookup 43 (.map (some b)) (.int .u8 (j : Int)) false).run Try.prog w = .ok (.bool (v j)) w := by
  obtain ⟨D, h1, h2, _⟩ := h
  obtain ⟨x, ps, hrun, hv⟩ := h1.lookup law5 Try.underlying43 (zero4 w) (zd := .held (.bool false)) (zp := []) rfl (key5 hj)
  rw [(h2 j hj).1] at hv
  rw [hrun, tok_inv hv]
theorem MapB.len {w : World} {b n : Nat} {v : Nat → Bool} (h : MapB w b n v) (ty : TypeId) : (Builtin.len_ #[43] ty #[.map (some b)]).run Try.prog w = .ok (.int .i64 (cnt4 v)) w := by
  obtain ⟨D, h1, _, h3⟩ := h
  rw [← h3]
  exact h1.len Try.underlying43 ty
theorem MapB.same {w w' : World} {b n : Nat} {v : Nat → Bool} (h : MapB w b n v) (hb : w'.heap[b]? = w.heap[b]?) : MapB w' b n v := by
  obtain ⟨D, ⟨es, clock, h1, h2, h3, h4⟩, h5⟩ := h
  exact ⟨D, ⟨es, clock, hb.trans h1, h2, h3, h4⟩, h5⟩
theorem MapB.lt {w : World} {b n : Nat} {v : Nat → Bool} (h : MapB w b n v) : b < w.heap.size := by
  obtain ⟨D, h1, _⟩ := h
  exact h1.lt
theorem cnt_tru (v : Nat → Bool) {j : Nat} (hj : j < 4) : cnt4 (tru v j) = if v j = true then cnt4 v else cnt4 v + 1 := by
  have : j = 0 ∨ j = 1 ∨ j = 2 ∨ j = 3 := by omega
  rcases this with rfl | rfl | rfl | rfl <;> unfold cnt4 tru one <;> simp
  · cases v 0 <;> cases v 1 <;> cases v 2 <;> cases v 3 <;> rfl
  · cases v 0 <;> cases v 1 <;> cases v 2 <;> cases v 3 <;> rfl
  · cases v 0 <;> cases v 1 <;> cases v 2 <;> cases v 3 <;> rfl
  · cases v 0 <;> cases v 1 <;> cases v 2 <;> cases v 3 <;> rfl
theorem lit8_ne {i j : Nat} (h : i ≠ j) : (Lit.int .u8 (i : Int)) ≠ Lit.int .u8 (j : Int) := fun e => h (by injection e; omega)
theorem isMap5 {w : World} {b n : Nat} {D : DataW Value} (hD : w.ownsMap Try.prog 5 tok b n D) : Maps.IsMap D := by
  obtain ⟨es, clock, _, _, _, rfl⟩ := hD; exact ⟨_, rfl⟩
theorem MapB.stored {w w' : World} {b n j : Nat} {v : Nat → Bool} {D : DataW Value} (hj : j < 4) (hD : w.ownsMap Try.prog 5 tok b n D)
    (h2 : (∀ i : Nat, i < 4 → D.atKey (.int .u8 (i : Int)) (.held (.bool false)) = .held (.bool (v i)) ∧ Maps.has D (.int .u8 (i : Int)) = v i) ∧ Maps.size D = cnt4 v)
    (h : w'.ownsMap Try.prog 5 tok b (n + 1) (D.put (.int .u8 (j : Int)) (.held (.bool true)))) : MapB w' b (n + 1) (tru v j) := by
  have hm := isMap5 hD
  refine ⟨_, h, fun i hi => ?_, ?_⟩
  · by_cases e : i = j
    · subst e
      rw [Maps.atKey_put_same hm (by trivial), Maps.has_put_same hm (by trivial)]
      simp [tru]
    · rw [Maps.atKey_put_other (lit8_ne e), Maps.has_put_other (lit8_ne e)]
      simp [tru, e, h2.1 i hi]
  · rw [Maps.size_put (hD.tidy law5), cnt_tru v hj, (h2.1 j hj).2, h2.2]
/-- The first n nodes. -/
def firstN (n : Nat) : List Int := (List.range n).map fun i : Nat => (i : Int)
theorem firstN_succ (k : Nat) : firstN (k + 1) = firstN k ++ [(k : Int)] := by simp [firstN, List.range_succ]
theorem firstN_len (n : Nat) : (firstN n).length = n := by simp [firstN]
theorem firstN_in (n : Nat) (h : n ≤ 4) : ∀ x ∈ firstN n, 0 ≤ x ∧ x ≤ 255 := fun x hx => by
  simp only [firstN, List.mem_map, List.mem_range] at hx
  obtain ⟨i, hi, rfl⟩ := hx
  omega
theorem firstN_ok {n : Nat} (h0 : 0 < n) (h : n ≤ 4) : listE (firstN n) = 0 := by
  have : n = 1 ∨ n = 2 ∨ n = 3 ∨ n = 4 := by omega
  rcases this with rfl | rfl | rfl | rfl <;> decide
theorem mem_firstN {n j : Nat} : memF (firstN n) j = decide (j < n) := by
  unfold memF firstN
  rw [Bool.eq_iff_iff]
  simp only [List.contains_eq_mem, decide_eq_true_iff, List.mem_map, List.mem_range]
  exact ⟨fun ⟨i, hi, e⟩ => by omega, fun h => ⟨j, h, rfl⟩⟩
theorem full_iff {n : Nat} (h0 : 0 < n) (h : n ≤ 4) {v : Nat → Bool} (hv : ∀ i, v i = true → i < n) : eq4 v (memF (firstN n)) = decide (cnt4 v = n) := by
  have e : ∀ i, ¬ i < n → v i = false := fun i hi => by
    cases hq : v i
    · rfl
    · exact absurd (hv i hq) hi
  have : n = 1 ∨ n = 2 ∨ n = 3 ∨ n = 4 := by omega
  unfold eq4 cnt4
  simp only [mem_firstN]
  rcases this with rfl | rfl | rfl | rfl
  · rw [e 1 (by omega), e 2 (by omega), e 3 (by omega)]
    cases v 0 <;> decide
  · rw [e 2 (by omega), e 3 (by omega)]
    cases v 0 <;> cases v 1 <;> decide
  · rw [e 3 (by omega)]
    cases v 0 <;> cases v 1 <;> cases v 2 <;> decide
  · cases v 0 <;> cases v 1 <;> cases v 2 <;> cases v 3 <;> decide
end Go.Proofs.Ytklalpamcfkngaa.Cm
