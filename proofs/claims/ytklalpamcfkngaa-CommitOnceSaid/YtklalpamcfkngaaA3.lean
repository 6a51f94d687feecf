/- commit: a book by what it holds; New, find, Runs, Stands, walked. -/
import Derived.Test.YtklalpamcfkngaaA2
namespace Go.Proofs.Ytklalpamcfkngaa.Cm
open Go Go.RowKit
/-- A transaction that is run: its nodes, who has voted, who has applied it, how it stands. -/
structure RunM where
  n : Nat → Bool
  v : Nat → Bool
  a : Nat → Bool
  s : Int
def runCells (m : RunM) : Array Value := #[.bool (m.n 0), .bool (m.n 1), .bool (m.n 2), .bool (m.n 3), .bool (m.v 0), .bool (m.v 1), .bool (m.v 2), .bool (m.v 3), .bool (m.a 0), .bool (m.a 1), .bool (m.a 2), .bool (m.a 3), .int .i64 m.s]
def ptrV (R : TK → Option (Nat × RunM)) : TK → Option Value := fun k => (R k).map fun r => .pointer (some ⟨r.1, 0, none⟩)
def intV (T : TK → Option Int) : TK → Option Value := fun k => (T k).map fun s => .int .i64 s
structure BookAt (w : World) (B n : Nat) (F : Nat → Prop) (p a b : Nat) (R : TK → Option (Nat × RunM)) (T : TK → Option Int) : Prop where
  cell : w.heap[p]? = some (.cells #[.map (some a), .map (some b)] 54 (0, 0))
  runs : MapV (.pointer none) w a n (ptrV R)
  takes : MapV (.int .i64 0) w b n (intV T)
  ab : a ≠ b
  each : ∀ k r, InK k → R k = some r → w.heap[r.1]? = some (.cells (runCells r.2) 77 (0, 0)) ∧ F r.1
  inj : ∀ k k' r r', InK k → InK k' → R k = some r → R k' = some r' → r.1 = r'.1 → k = k'
  base : B ≤ w.heap.size
  fp : F p
  fa : F a
  fb : F b
  hi : ∀ k, F k → k < w.heap.size
  low : ∀ k, F k → B ≤ k
theorem map_block {zd : Value} {w : World} {b n : Nat} {V : TK → Option Value} (h : MapV zd w b n V) : ∃ es clock, w.heap[b]? = some (.map es clock) := by
  obtain ⟨D, ⟨es, clock, h1, _⟩, _⟩ := h
  exact ⟨es, clock, h1⟩
section
variable {w w' : World} {B n p a b : Nat} {F G : Nat → Prop} {R : TK → Option (Nat × RunM)} {T : TK → Option Int}
theorem BookAt.on (h : BookAt w B n F p a b R T) (ht : Turned G w w') (hF : ∀ k, F k → ¬ G k) : BookAt w' B n F p a b R T :=
  ⟨(ht.block p (h.hi p h.fp) (hF p h.fp)).trans h.cell, h.runs.on ht (hF a h.fa), h.takes.on ht (hF b h.fb), h.ab,
    fun k r hk hr => ⟨(ht.block r.1 (h.hi _ (h.each k r hk hr).2) (hF _ (h.each k r hk hr).2)).trans (h.each k r hk hr).1, (h.each k r hk hr).2⟩, h.inj,
    Nat.le_trans h.base ht.size, h.fp, h.fa, h.fb, fun k hk => Nat.lt_of_lt_of_le (h.hi k hk) ht.size, h.low⟩
theorem BookAt.below (h : BookAt w B n F p a b R T) (hb : Below w.heap.size w w') : BookAt w' B n F p a b R T := h.on (G := fun _ => False) (below_any hb) (fun _ _ => id)
theorem BookAt.pa (h : BookAt w B n F p a b R T) : p ≠ a ∧ p ≠ b := by
  obtain ⟨_, _, h1⟩ := map_block h.runs
  obtain ⟨_, _, h2⟩ := map_block h.takes
  refine ⟨fun e => ?_, fun e => ?_⟩
  · have := h.cell; rw [e, h1] at this; cases this
  · have := h.cell; rw [e, h2] at this; cases this
theorem BookAt.cells (h : BookAt w B n F p a b R T) : w.cell? ⟨p, 0, none⟩ = some (.map (some a)) ∧ w.cell? ⟨p, 1, none⟩ = some (.map (some b)) := by
  have := h.cell
  simp [World.cell?, this]
end
/-- A book by what it holds: the runs, and how those stand in which it takes part. -/
def Bk (w : World) (B n : Nat) (F : Nat → Prop) (p : Nat) (RM : TK → Option RunM) (T : TK → Option Int) : Prop :=
  ∃ a b R, BookAt w B n F p a b R T ∧ ∀ k, InK k → (R k).map (·.2) = RM k
section
variable {w w' : World} {B n p : Nat} {F G : Nat → Prop} {RM : TK → Option RunM} {T : TK → Option Int}
theorem Bk.on (h : Bk w B n F p RM T) (ht : Turned G w w') (hF : ∀ k, F k → ¬ G k) : Bk w' B n F p RM T := by
  obtain ⟨a, b, R, h1, h2⟩ := h
  exact ⟨a, b, R, h1.on ht hF, h2⟩
theorem Bk.below (h : Bk w B n F p RM T) (hb : Below w.heap.size w w') : Bk w' B n F p RM T := h.on (G := fun _ => False) (below_any hb) (fun _ _ => id)
end
/-- What has become of a book, and that nothing else of what was there has turned. -/
def Did (w : World) (B n : Nat) (F : Nat → Prop) (p : Nat) (RM : TK → Option RunM) (T : TK → Option Int) (w' : World) : Prop :=
  ∃ F', Bk w' B n F' p RM T ∧ (∀ k, F' k → F k ∨ w.heap.size ≤ k) ∧ Turned F w w'
theorem Did.same {w w' : World} {B n p : Nat} {F : Nat → Prop} {RM : TK → Option RunM} {T : TK → Option Int} (h : Bk w B n F p RM T) (hb : Below w.heap.size w w') : Did w B n F p RM T w' :=
  ⟨F, h.below hb, fun _ h => .inl h, below_any hb⟩
set_option maxRecDepth 100000 in
theorem new_any (B : Nat) (w : World) (hB : B ≤ w.heap.size) : Calls Try.prog 8 #[] w fun e w' => e = .returned (.pointer (some ⟨w.heap.size + 2, 0, none⟩)) ∧ Bk w' B 0 (fun k => w.heap.size ≤ k ∧ k < w.heap.size + 3) (w.heap.size + 2) (fun _ => none) (fun _ => none) ∧ Below w.heap.size w w' := by
  have hmm := @run_makeMap Try.prog
  have h1 := Lib.hid (MapV.made (.pointer none) w)
  have h2 := Lib.hid (MapV.made (.int .i64 0) (w.alloc (.map #[] 0)))
  go_enter Try.func8, Try.ntmps8
  go_wp2
  go_ret
  have b1 : Below w.heap.size w (w.alloc (.map #[] 0)) := (Below.refl _ w).alloc (Nat.le_refl _) _
  have b2 : Below w.heap.size w ((w.alloc (.map #[] 0)).alloc (.map #[] 0)) := b1.alloc (by simp) _
  have z1 : (w.alloc (.map #[] 0)).heap.size = w.heap.size + 1 := by simp
  have z2 : ((w.alloc (.map #[] 0)).alloc (.map #[] 0)).heap.size = w.heap.size + 2 := by simp
  refine ⟨by simp, ⟨w.heap.size, w.heap.size + 1, fun _ => none, ?_, fun _ _ => rfl⟩, b2.alloc b2.size _⟩
  have hn := heap_alloc_new ((w.alloc (.map #[] 0)).alloc (.map #[] 0)) (.cells #[.map (some w.heap.size), .map (some (w.heap.size + 1))] 54)
  rw [z2] at hn
  refine ⟨by simpa using hn, ?_, ?_, by omega, fun k r _ h => (by cases h), fun k k' r r' _ _ h => (by cases h), by simp; omega, ⟨by omega, by omega⟩, ⟨by omega, by omega⟩, ⟨by omega, by omega⟩, fun k hk => by simp; omega, fun k hk => by omega⟩
  · exact (h1.out.kept (World.grownBy_alloc _ _ none) (by simp)).kept (World.grownBy_alloc _ _ none) (by simp)
  · have h3 := h2.out
    rw [z1] at h3
    exact h3.kept (World.grownBy_alloc _ _ none) (by simp)
theorem find_nil (t : TK) (w : World) : Calls Try.prog 34 #[.pointer none, .agg #[.int .u8 t.1, .int .u32 t.2.1, .int .u32 t.2.2]] w fun e w' => e = .returned (.pointer none) ∧ Below w.heap.size w w' := by
  go_enter Try.func34, Try.ntmps34
  go_wp2
  go_ret
  exact ⟨rfl, (Below.refl _ w).alloc (Nat.le_refl _) _⟩
set_option maxRecDepth 100000 in
theorem findV {w : World} {B n p a b : Nat} {F : Nat → Prop} {R : TK → Option (Nat × RunM)} {T : TK → Option Int} (h : BookAt w B n F p a b R T) {t : TK} (ht : InK t) :
    Calls Try.prog 34 #[.pointer (some ⟨p, 0, none⟩), .agg #[.int .u8 t.1, .int .u32 t.2.1, .int .u32 t.2.2]] w fun e w' => e = .returned ((ptrV R t).getD (.pointer none)) ∧ Below w.heap.size w w' := by
  have hb0 : Below w.heap.size w (w.alloc (.cells #[.int .u8 t.1, .int .u32 t.2.1, .int .u32 t.2.2] 33)) := (Below.refl _ w).alloc (Nat.le_refl _) _
  have H1 := Lib.hid (h.below hb0)
  have cp := h.cells
  have HB := Lib.hid hb0
  clear h hb0
  go_enter Try.func34, Try.ntmps34
  go_wp2
  refine wp_region_still_lit (by kernel_rfl) (by kernel_rfl) ?_
  change wpStill _ _ (World.drew _) _ _ _
  obtain ⟨cp0, cp1⟩ := H1.out.cells
  have HM := Lib.hid (H1.out.runs.on (turned_drew (fun _ => False) _) id)
  repeat (first | (refine wpStill_value rfl (exec_look51 (x := .tmp 10) (y := .tmp 11) rfl rfl rfl HM.out ht) ?_) | still_step)
  refine wpStill_nil ?_
  go_wp2
  go_ret
  exact ⟨rfl, HB.out.drew⟩
end Go.Proofs.Ytklalpamcfkngaa.Cm
