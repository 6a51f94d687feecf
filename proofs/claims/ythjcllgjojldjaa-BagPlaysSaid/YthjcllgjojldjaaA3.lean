/- bag: a bag by what it holds; New, Len, has. -/
import Derived.Test.YthjcllgjojldjaaA2
namespace Go.Proofs.Ythjcllgjojldjaa.Bg
open Go Go.RowKit
/-- A message: its block, its room, its bytes. -/
structure Mg where
  g : Nat
  cap : Nat
  l : List Int
def mv (m : Mg) : Value := .slice (some ⟨m.g, 0, none⟩) m.l.length m.cap
structure MgAt (w : World) (m : Mg) : Prop where
  own : w.ownsRow m.g 5 1 (mv m) m.l.length (bs m.l)
  pos : 0 < m.l.length
  few : m.l.length ≤ 16384
theorem MgAt.rd {w : World} {m : Mg} (h : MgAt w m) : Rd w (some ⟨m.g, 0, none⟩) m.l := own_rd h.own rfl
theorem MgAt.cap {w : World} {m : Mg} (h : MgAt w m) : m.l.length ≤ m.cap ∧ m.cap ≤ maxLen := own_cap h.own
theorem MgAt.blk {w : World} {m : Mg} (h : MgAt w m) : ∃ cur, w.heap[m.g]? = some (.cells cur 5 (0, 0)) := by
  rcases h.own.2 with ⟨h1, _⟩ | ⟨_, _, cur, h1, _, h2, _⟩
  · cases h1
  · cases h1
    exact ⟨cur, h2⟩
theorem MgAt.lt {w : World} {m : Mg} (h : MgAt w m) : m.g < w.heap.size := by
  obtain ⟨c, hc⟩ := h.blk
  exact (Array.getElem?_eq_some_iff.1 hc).1
theorem MgAt.on {w w' : World} {m : Mg} (h : MgAt w m) (hb : w'.heap[m.g]? = w.heap[m.g]?) : MgAt w' m :=
  ⟨own_on h.own (fun g hg => by simp [mv, Value.ownBlock] at hg; subst hg; exact hb), h.pos, h.few⟩
def rowM (M : List Mg) : List Value := M.map mv
theorem rowM_len (M : List Mg) : (rowM M).length = M.length := by simp [rowM]
theorem rowM_one (M : List Mg) : ∀ u ∈ rowM M, u.oneCell' = true := by
  intro u hu
  simp only [rowM, List.mem_map] at hu
  obtain ⟨t, _, rfl⟩ := hu
  rfl
theorem rowM_at {M : List Mg} {k : Nat} {m : Mg} (h : M[k]? = some m) : (rowM M)[k]? = some (mv m) := by simp [rowM, h]
/-- A bag: its block, its row, its messages. -/
structure Bx where
  p : Nat
  v : Value
  M : List Mg
/-- The blocks that are a bag's. -/
def Bx.has (X : Bx) (k : Nat) : Prop := k = X.p ∨ X.v.ownBlock = some k ∨ ∃ m ∈ X.M, m.g = k
/-- Those of them that turn when it does. -/
def Bx.top (X : Bx) (k : Nat) : Prop := k = X.p ∨ X.v.ownBlock = some k
structure BagAt (T : TypeId) (B : Nat) (w : World) (X : Bx) : Prop where
  cell : w.heap[X.p]? = some (.cells #[X.v] T (0, 0))
  base : B ≤ X.p
  row : w.ownsRow B 30 1 X.v X.M.length (rowM X.M)
  msg : ∀ m ∈ X.M, MgAt w m
  far : ∀ m ∈ X.M, B ≤ m.g
  dis : (X.M.map Mg.g).Nodup
  few : X.M.length ≤ 2000
section
variable {T : TypeId} {B : Nat} {w w' : World} {X : Bx}
theorem BagAt.lt (h : BagAt T B w X) {k : Nat} (hk : X.has k) : k < w.heap.size := by
  rcases hk with rfl | hk | ⟨m, hm, rfl⟩
  · exact (Array.getElem?_eq_some_iff.1 h.cell).1
  · exact (World.ownsRow.lt h.row k hk).2
  · exact (h.msg m hm).lt
theorem BagAt.ge (h : BagAt T B w X) {k : Nat} (hk : X.has k) : B ≤ k := by
  rcases hk with rfl | hk | ⟨m, hm, rfl⟩
  · exact h.base
  · exact (World.ownsRow.lt h.row k hk).1
  · exact h.far m hm
theorem Bx.top_has {k : Nat} (h : X.top k) : X.has k := h.elim .inl (fun h => .inr (.inl h))
theorem row_blk {e : TypeId} {n : Nat} {v : Value} {xs : List Value} (h : w.ownsRow B e 1 v n xs) {k : Nat} (hk : v.ownBlock = some k) : ∃ cur, w.heap[k]? = some (.cells cur e (0, 0)) := by
  rcases h.2 with ⟨h1, _⟩ | ⟨g, _, cur, h1, _, h2, _⟩
  · rw [h1] at hk; cases hk
  · rw [h1] at hk
    simp [Value.ownBlock] at hk
    subst hk
    exact ⟨cur, h2⟩
theorem BagAt.p_row (h : BagAt T B w X) (hT : T ≠ 30) : X.v.ownBlock ≠ some X.p := by
  intro e
  obtain ⟨c, hc⟩ := row_blk h.row e
  have := hc.symm.trans h.cell
  simp at this
  exact hT this.2.symm
theorem BagAt.p_msg (h : BagAt T B w X) (hT : T ≠ 5) {m : Mg} (hm : m ∈ X.M) : m.g ≠ X.p := by
  intro e
  obtain ⟨c, hc⟩ := (h.msg m hm).blk
  rw [e] at hc
  have := hc.symm.trans h.cell
  simp at this
  exact hT this.2.symm
theorem msg_row {n : Nat} {v : Value} {xs : List Value} {m : Mg} (h : w.ownsRow B 30 1 v n xs) (hm : MgAt w m) : v.ownBlock ≠ some m.g := by
  intro e
  obtain ⟨c, hc⟩ := row_blk h e
  obtain ⟨d, hd⟩ := hm.blk
  have := hc.symm.trans hd
  simp at this
theorem BagAt.top_msg (h : BagAt T B w X) (hT : T ≠ 5) {m : Mg} (hm : m ∈ X.M) : ¬ X.top m.g := fun hk => hk.elim (h.p_msg hT hm) (msg_row h.row (h.msg m hm))
theorem BagAt.on {Z : Nat → Prop} (h : BagAt T B w X) (ht : Turned Z w w') (hZ : ∀ k, X.has k → ¬ Z k) : BagAt T B w' X := by
  have hb : ∀ k, X.has k → w'.heap[k]? = w.heap[k]? := fun k hk => ht.block k (h.lt hk) (hZ k hk)
  exact ⟨(hb _ (.inl rfl)).trans h.cell, h.base, own_on h.row (fun g hg => hb g (.inr (.inl hg))), fun m hm => (h.msg m hm).on (hb _ (.inr (.inr ⟨m, hm, rfl⟩))), h.far, h.dis, h.few⟩
theorem BagAt.below (h : BagAt T B w X) (hb : Below w.heap.size w w') : BagAt T B w' X := h.on (Z := fun _ => False) (below_any hb) (fun _ _ h => h)
theorem BagAt.less (h : BagAt T B w X) {C : Nat} (hC : C ≤ B) : BagAt T C w X := by
  refine ⟨h.cell, Nat.le_trans hC h.base, ⟨h.row.1, ?_⟩, h.msg, fun m hm => Nat.le_trans hC (h.far m hm), h.dis, h.few⟩
  rcases h.row.2 with h1 | ⟨g, cap, cur, h1, h2, h3⟩
  · exact .inl h1
  · exact .inr ⟨g, cap, cur, h1, Nat.le_trans hC h2, h3⟩
theorem BagAt.c0 (h : BagAt T B w X) : w.cell? ⟨X.p, 0, none⟩ = some X.v := by simp [World.cell?, h.cell]
theorem row_form {n : Nat} {v : Value} {xs : List Value} {e : TypeId} (h : w.ownsRow B e 1 v n xs) : ∃ ao cap, v = .slice ao n cap ∧ n ≤ cap ∧ cap ≤ maxLen := by
  rcases h.2 with ⟨h1, h2⟩ | ⟨g, cap, cur, h1, _, _, h2, h3, _⟩
  · exact ⟨none, 0, by rw [h1, h2], by omega, Nat.zero_le _⟩
  · exact ⟨_, _, h1, h2, h3⟩
theorem row_at {n : Nat} {v : Value} {xs : List Value} {e : TypeId} (h : w.ownsRow B e 1 v n xs) {k : Nat} {u : Value} (hk : xs[k]? = some u) : ∃ g cap, v = .slice (some ⟨g, 0, none⟩) n cap ∧ B ≤ g ∧ g < w.heap.size ∧ n ≤ cap ∧ cap ≤ maxLen ∧ w.cell? ⟨g, k, none⟩ = some u := by
  rcases h.2 with ⟨_, h0⟩ | ⟨g, cap, cur, rfl, h1, h2, h3, h4, h5, h6⟩
  · have hl := h.1
    rw [h0] at hl
    obtain rfl : xs = [] := List.eq_nil_of_length_eq_zero (by simpa using hl)
    simp at hk
  · refine ⟨g, cap, rfl, h1, (Array.getElem?_eq_some_iff.1 h2).1, h3, h4, ?_⟩
    rw [← h6, List.getElem?_take] at hk
    split at hk
    · simp only [World.cell?, h2]
      simpa using hk
    · cases hk
end
def Two (X Y : Bx) : Prop := ∀ k, X.has k → ¬ Y.has k
theorem new_any (w : World) : Calls Try.prog 8 #[] w fun e w' => e = .returned (.pointer (some ⟨w.heap.size, 0, none⟩)) ∧ BagAt 50 w.heap.size w' ⟨w.heap.size, .slice none 0 0, []⟩ ∧ Below w.heap.size w w' := by
  go_enter Try.func8, Try.ntmps8
  go_wp2
  go_ret
  refine ⟨rfl, ⟨heap_alloc_new _ _, Nat.le_refl _, World.ownsRow_nil _ _ _ _, fun m hm => (by cases hm), fun m hm => (by cases hm), by simp, by simp⟩, (Below.refl _ _).alloc (Nat.le_refl _) _⟩
theorem len_any {B : Nat} {w : World} {X : Bx} (h : BagAt 50 B w X) : Calls Try.prog 10 #[.pointer (some ⟨X.p, 0, none⟩)] w fun e w' => e = .returned (.int .i64 X.M.length) ∧ w = w' := by
  obtain ⟨p, v, M⟩ := X
  obtain ⟨ao, cap, hv, _⟩ := row_form h.row
  have c0 := h.c0
  simp only at hv c0 ⊢
  subst hv
  clear h
  go_enter Try.func10, Try.ntmps10
  go_wp2
  go_ret
  exact ⟨rfl, rfl⟩
theorem len_nil (w : World) : Calls Try.prog 10 #[.pointer none] w fun e w' => e = .returned (.int .i64 0) ∧ w = w' := by
  go_enter Try.func10, Try.ntmps10
  go_wp2
  go_ret
  exact ⟨rfl, rfl⟩
theorem has_any {B : Nat} {w : World} {X : Bx} (h : BagAt 50 B w X) (i : Int) : Calls Try.prog 25 #[.pointer (some ⟨X.p, 0, none⟩), .int .i64 i] w fun e w' => e = .returned (.bool (decide (0 ≤ i ∧ i < X.M.length))) ∧ w = w' := by
  have hl := len_any h
  have hm := h.few
  by_cases h0 : 0 ≤ i
  · by_cases h1 : i < X.M.length
    · rw [decide_eq_true (And.intro h0 h1)]
      generalize X.M.length = n at *
      clear h
      go_enter Try.func25, Try.ntmps25
      go_wp2_with (refine hl.mono ?_; rintro e w' ⟨rfl, rfl⟩)
      go_ret
      exact ⟨rfl, rfl⟩
    · rw [decide_eq_false (fun h => h1 h.2)]
      generalize X.M.length = n at *
      clear h
      have h2 : (n : Int) ≤ i := by omega
      go_enter Try.func25, Try.ntmps25
      go_wp2_with (refine hl.mono ?_; rintro e w' ⟨rfl, rfl⟩)
      go_ret
      exact ⟨ret_bool (decide_eq_false (by omega)), rfl⟩
  · rw [decide_eq_false (fun h => h0 h.1)]
    have h2 : i < 0 := by omega
    clear hl h
    go_enter Try.func25, Try.ntmps25
    go_wp2
    go_ret
    exact ⟨rfl, rfl⟩
theorem has_nil (w : World) (i : Int) : Calls Try.prog 25 #[.pointer none, .int .i64 i] w fun e w' => e = .returned (.bool false) ∧ w = w' := by
  have hl := len_nil w
  by_cases h0 : 0 ≤ i
  · have h2 : ¬ i < 0 := by omega
    go_enter Try.func25, Try.ntmps25
    go_wp2_with (refine hl.mono ?_; rintro e w' ⟨rfl, rfl⟩)
    go_ret
    exact ⟨ret_bool (decide_eq_false (by omega)), rfl⟩
  · have h2 : i < 0 := by omega
    clear hl
    go_enter Try.func25, Try.ntmps25
    go_wp2
    go_ret
    exact ⟨rfl, rfl⟩
end Go.Proofs.Ythjcllgjojldjaa.Bg
