/- The order of stamps: its mathematics. -/
import Derived.Test.YtfennglfmngeiaaW7
import Derived.Sort.Statements
namespace Go.Proofs.Ytfennglfmngeiaa.St
open Go Go.Sort
/-- x is elder than y. -/
def eld (x y : Q) : Prop := x.n < y.n ∨ x.n = y.n ∧ (x.node < y.node ∨ x.node = y.node ∧ (x.inc < y.inc ∨ x.inc = y.inc ∧ x.seq < y.seq))
theorem c3_neg (x y : Int) : c3 x y = -1 ↔ x < y := by unfold c3; split <;> (try split) <;> simp_all <;> omega
theorem c3_zero (x y : Int) : c3 x y = 0 ↔ x = y := by unfold c3; split <;> (try split) <;> simp_all <;> omega
theorem c3_pos (x y : Int) : c3 x y = 1 ↔ y < x := by unfold c3; split <;> (try split) <;> simp_all <;> omega
theorem c3_three (x y : Int) : (x < y ∧ c3 x y = -1) ∨ (x = y ∧ c3 x y = 0) ∨ (y < x ∧ c3 x y = 1) := by
  rcases Int.lt_trichotomy x y with h | h | h
  · exact .inl ⟨h, (c3_neg x y).2 h⟩
  · exact .inr (.inl ⟨h, (c3_zero x y).2 h⟩)
  · exact .inr (.inr ⟨h, (c3_pos x y).2 h⟩)
theorem ordQ_neg (x y : Q) : ordQ x y < 0 ↔ eld x y := by
  unfold ordQ or4 eld
  rcases c3_three x.n y.n with ⟨h, e⟩ | ⟨h, e⟩ | ⟨h, e⟩ <;> rcases c3_three x.node y.node with ⟨h2, e2⟩ | ⟨h2, e2⟩ | ⟨h2, e2⟩ <;> rcases c3_three x.inc y.inc with ⟨h3, e3⟩ | ⟨h3, e3⟩ | ⟨h3, e3⟩ <;> rcases c3_three x.seq y.seq with ⟨h4, e4⟩ | ⟨h4, e4⟩ | ⟨h4, e4⟩ <;> simp only [e, e2, e3, e4] <;> simp <;> omega
theorem Q.ext' {x y : Q} (h1 : x.n = y.n) (h2 : x.node = y.node) (h3 : x.inc = y.inc) (h4 : x.seq = y.seq) : x = y := by cases x; cases y; simp_all
theorem eld_irrefl (x : Q) : ¬ eld x x := by unfold eld; omega
theorem eld_trans {x y z : Q} (h : eld x y) (k : eld y z) : eld x z := by unfold eld at *; omega
theorem eld_total (x y : Q) : eld x y ∨ x = y ∨ eld y x := by
  by_cases h : x = y
  · exact .inr (.inl h)
  · have : ¬ (x.n = y.n ∧ x.node = y.node ∧ x.inc = y.inc ∧ x.seq = y.seq) := fun ⟨h1, h2, h3, h4⟩ => h (Q.ext' h1 h2 h3 h4)
    unfold eld; omega
/-- The eldest is in the list, and nothing there is elder. -/
def Least (l : List Q) (m : Q) : Prop := m ∈ l ∧ ∀ x ∈ l, ¬ eld x m
theorem Least.one {l : List Q} {m m' : Q} (h : Least l m) (h' : Least l m') : m = m' := by
  rcases eld_total m m' with e | e | e
  · exact absurd e (h'.2 m h.1)
  · exact e
  · exact absurd e (h.2 m' h'.1)
theorem elder_least {l : List Q} {m x : Q} (h : Least l m) : Least (l ++ [x]) (elder m x) := by
  unfold elder
  split
  · rename_i hx
    rw [ordQ_neg] at hx
    refine ⟨by simp, fun y hy => ?_⟩
    rcases List.mem_append.1 hy with hy | hy
    · intro e; exact h.2 y hy (eld_trans e hx)
    · rw [List.mem_singleton.1 hy]; exact eld_irrefl x
  · rename_i hx
    rw [ordQ_neg] at hx
    refine ⟨List.mem_append_left _ h.1, fun y hy => ?_⟩
    rcases List.mem_append.1 hy with hy | hy
    · exact h.2 y hy
    · rw [List.mem_singleton.1 hy]; exact hx
theorem foldl_least (r : List Q) : ∀ (l : List Q) (m : Q), Least l m → Least (l ++ r) (r.foldl elder m) := by
  induction r with
  | nil => intro l m h; simpa using h
  | cons x r ih =>
    intro l m h
    have := ih (l ++ [x]) (elder m x) (elder_least h)
    simpa using this
theorem minQ_least {l : List Q} (h : l ≠ []) : Least l (minQ l) := by
  cases l with
  | nil => exact absurd rfl h
  | cons x l => exact foldl_least l [x] x ⟨by simp, fun y hy => by rw [List.mem_singleton.1 hy]; exact eld_irrefl x⟩
theorem minQ_app {a b : List Q} (ha : a ≠ []) (hb : b ≠ []) : minQ (a ++ b) = elder (minQ a) (minQ b) := by
  have hA := minQ_least ha
  have hB := minQ_least hb
  refine (minQ_least (l := a ++ b) (by simp [ha])).one ?_
  unfold elder
  split
  · rename_i hx
    rw [ordQ_neg] at hx
    refine ⟨List.mem_append_right _ hB.1, fun y hy => ?_⟩
    rcases List.mem_append.1 hy with hy | hy
    · intro e; exact hA.2 y hy (eld_trans e hx)
    · exact hB.2 y hy
  · rename_i hx
    rw [ordQ_neg] at hx
    refine ⟨List.mem_append_left _ hA.1, fun y hy => ?_⟩
    rcases List.mem_append.1 hy with hy | hy
    · exact hA.2 y hy
    · intro e
      rcases eld_total (minQ b) (minQ a) with k | k | k
      · exact hx k
      · rw [← k] at e; exact hB.2 y hy e
      · exact hB.2 y hy (eld_trans e k)
def ltQ (x y : Q) : Bool := decide (ordQ x y < 0)
theorem ltQ_iff (x y : Q) : ltQ x y = true ↔ eld x y := by unfold ltQ; rw [decide_eq_true_iff, ordQ_neg]
theorem ltQ_false (x y : Q) : ltQ x y = false ↔ ¬ eld x y := by rw [← ltQ_iff]; simp
theorem swoQ : SWO ltQ where
  irrefl x := (ltQ_false x x).2 (eld_irrefl x)
  trans x y z h k := (ltQ_iff x z).2 (eld_trans ((ltQ_iff x y).1 h) ((ltQ_iff y z).1 k))
  ntrans x y z h k := by
    rw [ltQ_false] at *
    intro e
    rcases eld_total x y with h1 | h1 | h1
    · exact h h1
    · rw [h1] at e; exact k e
    · rcases eld_total y z with k1 | k1 | k1
      · exact k k1
      · rw [← k1] at e; exact h e
      · exact eld_irrefl x (eld_trans e (eld_trans k1 h1))
theorem antiQ (x y : Q) (h : ltQ x y = false) (k : ltQ y x = false) : x = y := by
  rw [ltQ_false] at h k
  rcases eld_total x y with e | e | e
  · exact absurd e h
  · exact e
  · exact absurd e k
/-- A list in order. -/
def srt (l : List Q) : List Q := l.mergeSort fun x y => !ltQ y x
theorem srt_pairwise (l : List Q) : (srt l).Pairwise fun x y => (!ltQ y x) = true := by
  refine List.pairwise_mergeSort (fun a b c h k => ?_) (fun a b => ?_) l
  · simp only [Bool.not_eq_true'] at *
    exact swoQ.ntrans c b a k h
  · cases h : ltQ a b
    · simp
    · have := (ltQ_false b a).2 (fun e => eld_irrefl a (eld_trans ((ltQ_iff a b).1 h) e))
      simp [this]
theorem srt_srt (l : List Q) : srt (srt l) = srt l := List.mergeSort_of_pairwise (srt_pairwise l)
theorem srt_length (l : List Q) : (srt l).length = l.length := List.length_mergeSort l
theorem srt_head {l : List Q} {x : Q} {r : List Q} (h : srt l = x :: r) : x = minQ l := by
  have hne : l ≠ [] := by
    rintro rfl
    rw [show srt [] = [] by simp [srt]] at h
    cases h
  refine Least.one (l := l) ⟨?_, fun y hy => ?_⟩ (minQ_least hne)
  · have : x ∈ srt l := by rw [h]; simp
    exact (List.mergeSort_perm l _).mem_iff.1 this
  · have hp := srt_pairwise l
    rw [h] at hp
    have hm : y ∈ x :: r := by rw [← h]; exact (List.mergeSort_perm l _).mem_iff.2 hy
    rcases List.mem_cons.1 hm with e | e
    · rw [e]; exact eld_irrefl x
    · have := (List.pairwise_cons.1 hp).1 y e
      rw [Bool.not_eq_true', ltQ_false] at this
      exact this
end Go.Proofs.Ytfennglfmngeiaa.St
