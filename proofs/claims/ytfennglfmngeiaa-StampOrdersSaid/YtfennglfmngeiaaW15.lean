/- The document's Elder, walked; its Sort: its mathematics. -/
import Derived.Test.YtfennglfmngeiaaW13
namespace Go.Proofs.Ytfennglfmngeiaa.St
open Go Go.RowKit Go.Sort
theorem elder4 (x y : Q) (w : World) :
    Calls Try.prog 14 #[.agg #[.int .u64 x.n, .int .u8 x.node, .int .u32 x.inc, .int .u32 x.seq], .agg #[.int .u64 y.n, .int .u8 y.node, .int .u32 y.inc, .int .u32 y.seq]] w fun e w' => e = .returned (.bool (ltQ x y)) ∧ ∃ q os', w' = grow (w.drewN q) os' := by
  by_cases h1 : x.n = y.n
  · by_cases h2 : x.node = y.node
    · by_cases h3 : x.inc = y.inc
      · have e : ltQ x y = decide (x.seq < y.seq) := by rw [Bool.eq_iff_iff, ltQ_iff, decide_eq_true_iff]; unfold eld; omega
        rw [e]
        go_enter Try.func14, Try.ntmps14
        go_wp2_with fail
        go_ret
        exact ⟨rfl, 0, _, by rw [alloc_eq_grow, alloc_eq_grow, grow_grow]; rfl⟩
      · have e : ltQ x y = decide (x.inc < y.inc) := by rw [Bool.eq_iff_iff, ltQ_iff, decide_eq_true_iff]; unfold eld; omega
        rw [e]
        go_enter Try.func14, Try.ntmps14
        go_wp2_with fail
        go_ret
        exact ⟨rfl, 0, _, by rw [alloc_eq_grow, alloc_eq_grow, grow_grow]; rfl⟩
    · have e : ltQ x y = decide (x.node < y.node) := by rw [Bool.eq_iff_iff, ltQ_iff, decide_eq_true_iff]; unfold eld; omega
      rw [e]
      go_enter Try.func14, Try.ntmps14
      go_wp2_with fail
      go_ret
      exact ⟨rfl, 0, _, by rw [alloc_eq_grow, alloc_eq_grow, grow_grow]; rfl⟩
  · have e : ltQ x y = decide (x.n < y.n) := by rw [Bool.eq_iff_iff, ltQ_iff, decide_eq_true_iff]; unfold eld; omega
    rw [e]
    go_enter Try.func14, Try.ntmps14
    go_wp2_with fail
    go_ret
    exact ⟨rfl, 0, _, by rw [alloc_eq_grow, alloc_eq_grow, grow_grow]; rfl⟩
/-- A stamp put in its place, as the document does. -/
def ins (s : Q) : List Q → List Q
  | [] => [s]
  | x :: r => if ltQ s x then s :: x :: r else x :: ins s r
/-- What the document's list is in the midst of it. -/
def mid (s : Q) (d : Bool) (p : List Q) : List Q := if d then ins s p else p
theorem ins_perm (s : Q) (l : List Q) : (ins s l).Perm (s :: l) := by
  induction l with
  | nil => exact List.Perm.refl _
  | cons x r ih =>
    unfold ins
    split
    · exact List.Perm.refl _
    · exact (ih.cons x).trans (List.Perm.swap _ _ _)
theorem ins_length (s : Q) (l : List Q) : (ins s l).length = l.length + 1 := (ins_perm s l).length_eq
theorem mid_length (s : Q) (d : Bool) (p : List Q) : (mid s d p).length ≤ p.length + 1 := by
  unfold mid; split
  · rw [ins_length]; omega
  · omega
theorem ins_snoc (s x : Q) (p : List Q) (h : p.any (ltQ s) = true) : ins s (p ++ [x]) = ins s p ++ [x] := by
  induction p with
  | nil => simp at h
  | cons y r ih =>
    simp only [List.cons_append, ins]
    split
    · rfl
    · rename_i hy
      simp only [List.any_cons, hy, Bool.false_or] at h
      rw [ih (by simpa using h)]; rfl
theorem ins_none (s : Q) (p r : List Q) (h : p.any (ltQ s) = false) : ins s (p ++ r) = p ++ ins s r := by
  induction p with
  | nil => rfl
  | cons y p ih =>
    simp only [List.any_cons, Bool.or_eq_false_iff] at h
    simp only [List.cons_append, ins, h.1, Bool.false_eq_true, if_false]
    rw [ih h.2]
theorem mid_done (s x : Q) (p : List Q) (h : p.any (ltQ s) = true) : mid s true (p ++ [x]) = mid s true p ++ [x] := by
  simp only [mid, if_true]; exact ins_snoc s x p h
theorem mid_now (s x : Q) (p : List Q) (h : p.any (ltQ s) = false) (k : ltQ s x = true) : mid s true (p ++ [x]) = mid s false p ++ [s] ++ [x] := by
  simp only [mid, if_true, Bool.false_eq_true, if_false]
  rw [ins_none s p [x] h]
  simp [ins, k]
theorem mid_not (s x : Q) (p : List Q) : mid s false (p ++ [x]) = mid s false p ++ [x] := by simp [mid]
theorem any_snoc (s x : Q) (p : List Q) : (p ++ [x]).any (ltQ s) = (p.any (ltQ s) || ltQ s x) := by simp
theorem mid_end (s : Q) (p : List Q) (d : Bool) (h : d = p.any (ltQ s)) : (if d then mid s d p else mid s d p ++ [s]) = ins s p := by
  cases d
  · have := ins_none s p [] h.symm
    simp only [List.append_nil] at this
    rw [this]; simp [mid, ins]
  · simp [mid]
theorem ins_sorted (s : Q) (l : List Q) (h : l.Pairwise fun x y => (!ltQ y x) = true) : (ins s l).Pairwise fun x y => (!ltQ y x) = true := by
  induction l with
  | nil => simp [ins]
  | cons x r ih =>
    have hp := List.pairwise_cons.1 h
    unfold ins
    split
    · rename_i hx
      refine List.pairwise_cons.2 ⟨fun y hy => ?_, h⟩
      rw [Bool.not_eq_true', ltQ_false]
      rw [ltQ_iff] at hx
      rcases List.mem_cons.1 hy with rfl | hy
      · intro e; exact eld_irrefl s (eld_trans hx e)
      · have := hp.1 y hy
        rw [Bool.not_eq_true', ltQ_false] at this
        intro e; exact this (eld_trans e hx)
    · rename_i hx
      refine List.pairwise_cons.2 ⟨fun y hy => ?_, ih hp.2⟩
      rcases List.mem_cons.1 ((ins_perm s r).mem_iff.1 hy) with rfl | hy
      · simp at hx ⊢; exact hx
      · exact hp.1 y hy
/-- The document's sort. -/
def refSort (l : List Q) : List Q := l.foldl (fun o s => ins s o) []
theorem refSort_snoc (l : List Q) (x : Q) : refSort (l ++ [x]) = ins x (refSort l) := by simp [refSort, List.foldl_append]
theorem refSort_perm (l : List Q) : (refSort l).Perm l := by
  suffices h : ∀ (l o : List Q), (l.foldl (fun o s => ins s o) o).Perm (o ++ l) by simpa [refSort] using h l []
  intro l
  induction l with
  | nil => intro o; simp
  | cons x r ih =>
    intro o
    refine (ih (ins x o)).trans ?_
    exact ((ins_perm x o).append_right r).trans (by simpa using (List.perm_middle (a := x) (l₁ := o) (l₂ := r)).symm)
theorem refSort_sorted (l : List Q) : (refSort l).Pairwise fun x y => (!ltQ y x) = true := by
  suffices h : ∀ (l o : List Q), (o.Pairwise fun x y => (!ltQ y x) = true) → (l.foldl (fun o s => ins s o) o).Pairwise fun x y => (!ltQ y x) = true from h l [] List.Pairwise.nil
  intro l
  induction l with
  | nil => intro o h; exact h
  | cons x r ih => intro o h; exact ih _ (ins_sorted x o h)
theorem refSort_length (l : List Q) : (refSort l).length = l.length := (refSort_perm l).length_eq
theorem refSort_srt (l : List Q) : refSort l = srt l := by
  refine List.Perm.eq_of_pairwise (le := fun x y => (!ltQ y x) = true) ?_ (refSort_sorted l) (srt_pairwise l) ((refSort_perm l).trans (List.mergeSort_perm l _).symm)
  intro a b _ _ h k
  simp only [Bool.not_eq_true'] at h k
  exact antiQ a b k h
end Go.Proofs.Ytfennglfmngeiaa.St
