/- credit: messages on their way, by numbers; what is out is what is on its way. -/
import Derived.Test.YtapofbiflkfocaaB4
namespace Go.Proofs.Ytapofbiflkfocaa.Cr
open Go Go.RowKit
/-- A message: its number, its credit, its depth. -/
abbrev Ms := Int × Int × Int
def mc (x : Ms) : List Value := [.int .u64 x.1, .int .u64 x.2.1, .int .i64 x.2.2]
def ms (L : List Ms) : List Value := L.flatMap mc
theorem ms_app (A B : List Ms) : ms (A ++ B) = ms A ++ ms B := by simp [ms]
theorem ms_len (M : List Ms) : (ms M).length = M.length * 3 := by
  induction M with
  | nil => rfl
  | cons t M ih => rw [show t :: M = [t] ++ M from rfl, ms_app, List.length_append, ih]; simp [ms, mc]; omega
theorem ms_at {M : List Ms} : ∀ {i : Nat} {t : Ms}, M[i]? = some t → ∀ j, j < 3 → (ms M)[i * 3 + j]? = (mc t)[j]? := by
  induction M with
  | nil => intro i t h; simp at h
  | cons a M ih =>
    intro i t h j hj
    rw [show a :: M = [a] ++ M from rfl, ms_app]
    cases i with
    | zero =>
      simp at h
      subst h
      rw [List.getElem?_append_left (by simp [ms, mc]; omega)]
      simp [ms]
    | succ i =>
      have h2 : M[i]? = some t := by simpa using h
      rw [List.getElem?_append_right (by simp [ms, mc]; omega), ← ih h2 j hj]
      congr 1
      simp [ms, mc]
      omega
theorem ms_one (M : List Ms) : ∀ u ∈ ms M, u.oneCell' = true := by
  intro u hu
  obtain ⟨t, _, hu⟩ := List.mem_flatMap.1 hu
  simp [mc] at hu
  rcases hu with rfl | rfl | rfl <;> rfl
theorem info34 : (Try.prog.info? 34).map (fun i => (i.zero, i.size, i.bytes)) = some (some (.agg #[.int .u64 0, .int .u64 0, .int .i64 0]), 3, 24) := by kernel_rfl
theorem ms_take (L : List Ms) (k : Nat) : ms (L.take k) = (ms L).take (k * 3) := by
  induction L generalizing k with
  | nil => simp [ms]
  | cons a L ih =>
    cases k with
    | zero => simp [ms]
    | succ k =>
      rw [List.take_succ_cons, show a :: L.take k = [a] ++ L.take k from rfl, ms_app, show a :: L = [a] ++ L from rfl, ms_app, ih, List.take_append]
      have e1 : (ms [a]).length = 3 := rfl
      rw [List.take_of_length_le (l := ms [a]) (by rw [e1]; omega), e1]
      congr 2
      omega
theorem ms_drop (L : List Ms) (k : Nat) : ms (L.drop k) = (ms L).drop (k * 3) := by
  induction L generalizing k with
  | nil => simp [ms]
  | cons a L ih =>
    cases k with
    | zero => simp
    | succ k =>
      rw [List.drop_succ_cons, ih, show a :: L = [a] ++ L from rfl, ms_app, List.drop_append]
      have e1 : (ms [a]).length = 3 := rfl
      have e2 : List.drop ((k + 1) * 3) (ms [a]) = [] := List.drop_eq_nil_of_le (by rw [e1]; omega)
      rw [e2, e1, List.nil_append]
      congr 1
      omega
/-- The credit of all that hasn't been worked on. -/
def sm : Nat → (Int → Bool) → (Int → Int) → Int
  | 0, _, _ => 0
  | n + 1, D, cr => sm n D cr + if D n then 0 else cr n
def mark (D : Int → Bool) (k : Int) : Int → Bool := fun j => if j = k then true else D j
def give (cr : Int → Int) (k s : Int) : Int → Int := fun j => if j = k then s else cr j
theorem sm_nonneg {D : Int → Bool} {cr : Int → Int} : ∀ {n : Nat}, (∀ k : Int, 0 ≤ k → k < n → 1 ≤ cr k) → 0 ≤ sm n D cr
  | 0, _ => by simp [sm]
  | n + 1, h => by
    have h1 := sm_nonneg (D := D) (cr := cr) (n := n) (fun k h0 h1 => h k h0 (by omega))
    have h2 := h n (by omega) (by omega)
    unfold sm
    split <;> omega
theorem sm_ge {D : Int → Bool} {cr : Int → Int} : ∀ {n : Nat}, (∀ k : Int, 0 ≤ k → k < n → 1 ≤ cr k) → ∀ k : Int, 0 ≤ k → k < n → D k = false → cr k ≤ sm n D cr
  | 0, _, k, h0, h1, _ => by omega
  | n + 1, h, k, h0, h1, hD => by
    have hp := sm_nonneg (D := D) (cr := cr) (n := n) (fun k h0 h1 => h k h0 (by omega))
    have h2 := h n (by omega) (by omega)
    unfold sm
    by_cases e : k = n
    · subst e
      rw [if_neg (by rw [hD]; decide)]
      omega
    · have := sm_ge (n := n) (fun k h0 h1 => h k h0 (by omega)) k h0 (by omega) hD
      split <;> omega
theorem sm_mark {D : Int → Bool} {cr : Int → Int} {k : Int} : ∀ {n : Nat}, 0 ≤ k → D k = false → sm n (mark D k) cr = sm n D cr - (if k < n then cr k else 0)
  | 0, h0, _ => by rw [if_neg (by omega)]; simp [sm]
  | n + 1, h0, hD => by
    have ih := sm_mark (n := n) (cr := cr) h0 hD
    unfold sm
    rw [ih]
    by_cases e : (n : Int) = k
    · subst e
      rw [if_neg (by omega), if_pos (show mark D n n = true by simp [mark]), hD, if_neg (by decide), if_pos (by omega)]
      omega
    · rw [show mark D k n = D n by simp [mark, e]]
      by_cases h2 : k < (n : Int)
      · rw [if_pos h2, if_pos (show k < ((n + 1 : Nat) : Int) by omega)]; omega
      · rw [if_neg h2, if_neg (show ¬ k < ((n + 1 : Nat) : Int) by omega)]; omega
theorem sm_give {D : Int → Bool} {cr : Int → Int} {s : Int} {k : Nat} : ∀ {n : Nat}, n ≤ k → sm n D (give cr k s) = sm n D cr
  | 0, _ => rfl
  | n + 1, h => by
    unfold sm
    rw [sm_give (n := n) (by omega)]
    rw [show give cr k s n = cr n by simp [give]; omega]
theorem sm_zero {D : Int → Bool} {cr : Int → Int} : ∀ {n : Nat}, (∀ k : Int, 0 ≤ k → k < n → D k = true) → sm n D cr = 0
  | 0, _ => rfl
  | n + 1, h => by
    unfold sm
    rw [sm_zero (n := n) (fun k h0 h1 => h k h0 (by omega)), if_pos (h n (by omega) (by omega))]
    rfl
/-- What is on its way, and what is out. -/
structure Inv (L : List Ms) (nx : Nat) (D : Int → Bool) (cr : Int → Int) (o : Int) : Prop where
  mem : ∀ x ∈ L, 0 ≤ x.1 ∧ x.1 < nx ∧ x.2.1 = cr x.1 ∧ 0 ≤ x.2.2 ∧ x.2.2 ≤ 8
  all : ∀ k : Int, 0 ≤ k → k < nx → D k = false → ∃ x ∈ L, x.1 = k
  pos : ∀ k : Int, 0 ≤ k → k < nx → 1 ≤ cr k
  sum : o = sm nx D cr
  fresh : ∀ k : Int, nx ≤ k → D k = false
section
variable {L : List Ms} {nx : Nat} {D : Int → Bool} {cr : Int → Int} {o : Int}
theorem Inv.start : Inv [(0, 1152921504606846976, 0)] 1 (fun _ => false) (fun _ => 1152921504606846976) 1152921504606846976 :=
  ⟨fun x hx => by rw [List.mem_singleton.1 hx]; decide, fun k h0 h1 _ => ⟨_, List.mem_singleton.2 rfl, by simp only; omega⟩, fun _ _ _ => by decide, rfl, fun _ _ => rfl⟩
theorem Inv.copy (h : Inv L nx D cr o) {x : Ms} (hx : x ∈ L) : Inv (L ++ [x]) nx D cr o :=
  ⟨fun y hy => by
    rcases List.mem_append.1 hy with hy | hy
    · exact h.mem y hy
    · rw [List.mem_singleton.1 hy]; exact h.mem x hx, fun k h0 h1 h2 => by
    obtain ⟨y, hy, e⟩ := h.all k h0 h1 h2
    exact ⟨y, List.mem_append_left _ hy, e⟩, h.pos, h.sum, h.fresh⟩
/-- Without the k-th. -/
def cut (L : List Ms) (k : Nat) : List Ms := L.take k ++ L.drop (k + 1)
theorem mem_cut {L : List Ms} {k : Nat} {y : Ms} (h : y ∈ cut L k) : y ∈ L := by
  rcases List.mem_append.1 h with h | h
  · exact List.mem_of_mem_take h
  · exact List.mem_of_mem_drop h
theorem cut_mem {L : List Ms} {k : Nat} {x y : Ms} (hx : L[k]? = some x) (hy : y ∈ L) (hne : y ≠ x) : y ∈ cut L k := by
  obtain ⟨i, hi⟩ := List.getElem?_of_mem hy
  have : i ≠ k := fun e => hne (by rw [e, hx] at hi; exact (Option.some.inj hi).symm)
  refine List.mem_append.2 ?_
  by_cases hlt : i < k
  · left
    exact List.mem_of_getElem? (i := i) (by rw [List.getElem?_take_of_lt hlt]; exact hi)
  · right
    exact List.mem_of_getElem? (i := i - (k + 1)) (by rw [List.getElem?_drop]; rw [show k + 1 + (i - (k + 1)) = i by omega]; exact hi)
theorem Inv.again (h : Inv L nx D cr o) {k : Nat} {x : Ms} (hx : L[k]? = some x) (hd : D x.1 = true) : Inv (cut L k) nx D cr o :=
  ⟨fun y hy => h.mem y (mem_cut hy), fun j h0 h1 h2 => by
    obtain ⟨y, hy, e⟩ := h.all j h0 h1 h2
    exact ⟨y, cut_mem hx hy (fun e2 => by rw [← e2, e, h2] at hd; cases hd), e⟩, h.pos, h.sum, h.fresh⟩
theorem Inv.work (h : Inv L nx D cr o) {k : Nat} {x : Ms} (hx : L[k]? = some x) (hd : D x.1 = false) : Inv (cut L k) nx (mark D x.1) cr (o - x.2.1) := by
  obtain ⟨m0, m1, m2, _⟩ := h.mem x (List.mem_of_getElem? hx)
  refine ⟨fun y hy => h.mem y (mem_cut hy), fun j h0 h1 h2 => ?_, h.pos, ?_, fun j hj => ?_⟩
  · have hj : j ≠ x.1 := fun e => by simp [mark, e] at h2
    obtain ⟨y, hy, e⟩ := h.all j h0 h1 (by simpa [mark, hj] using h2)
    exact ⟨y, cut_mem hx hy (fun e2 => hj (by rw [← e, e2])), e⟩
  · rw [sm_mark m0 hd, if_pos m1, h.sum, m2]
  · have hj2 : j ≠ x.1 := by omega
    simp only [mark, hj2, if_false]
    exact h.fresh j hj
theorem Inv.cause (h : Inv L nx D cr o) {s d : Int} (hs : 1 ≤ s) (d0 : 0 ≤ d) (d8 : d ≤ 8) : Inv (L ++ [((nx : Int), s, d)]) (nx + 1) D (give cr nx s) (o + s) := by
  refine ⟨fun y hy => ?_, fun j h0 h1 h2 => ?_, fun j h0 h1 => ?_, ?_, fun j hj => h.fresh j (by omega)⟩
  · rcases List.mem_append.1 hy with hy | hy
    · obtain ⟨a, b, c, d⟩ := h.mem y hy
      exact ⟨a, by omega, by rw [c]; simp only [give]; rw [if_neg (by omega)], d⟩
    · rw [List.mem_singleton.1 hy]
      exact ⟨by simp, by simp; omega, by simp [give], d0, d8⟩
  · by_cases e : j = nx
    · exact ⟨_, List.mem_append_right _ (List.mem_singleton.2 rfl), e.symm⟩
    · obtain ⟨y, hy, e⟩ := h.all j h0 (by omega) h2
      exact ⟨y, List.mem_append_left _ hy, e⟩
  · unfold give
    split
    · exact hs
    · exact h.pos j h0 (by omega)
  · unfold sm
    rw [h.fresh nx (by omega), if_neg (by decide), sm_give (Nat.le_refl _), ← h.sum]
    simp [give]
theorem Inv.nonneg (h : Inv L nx D cr o) : 0 ≤ o := by rw [h.sum]; exact sm_nonneg h.pos
/-- One that hasn't been worked on: something is out. -/
theorem Inv.out (h : Inv L nx D cr o) {x : Ms} (hx : x ∈ L) (hd : D x.1 = false) : 1 ≤ x.2.1 ∧ x.2.1 ≤ o := by
  obtain ⟨m0, m1, m2, _⟩ := h.mem x hx
  have := h.pos x.1 m0 m1
  have := sm_ge h.pos x.1 m0 m1 hd
  rw [h.sum, m2]
  omega
/-- Nothing is out just if all have been worked on. -/
theorem Inv.zero (h : Inv L nx D cr o) : (o == 0) = !(L.any fun x => !(D x.1)) := by
  by_cases ha : ∃ x ∈ L, D x.1 = false
  · obtain ⟨x, hx, hd⟩ := ha
    have h1 := h.out hx hd
    have h2 : (L.any fun x => !(D x.1)) = true := List.any_eq_true.2 ⟨x, hx, by rw [hd]; rfl⟩
    rw [h2]
    simp only [Bool.not_true, beq_eq_false_iff_ne]
    omega
  · have h2 : (L.any fun x => !(D x.1)) = false := by
      rw [List.any_eq_false]
      intro x hx hn
      exact ha ⟨x, hx, by simpa using hn⟩
    have h3 : o = 0 := by
      rw [h.sum]
      refine sm_zero fun k h0 h1 => ?_
      cases hk : D k
      · obtain ⟨x, hx, e⟩ := h.all k h0 h1 hk
        exact absurd ⟨x, hx, by rw [e, hk]⟩ ha
      · rfl
    rw [h2, h3]
    rfl
end
end Go.Proofs.Ytapofbiflkfocaa.Cr
