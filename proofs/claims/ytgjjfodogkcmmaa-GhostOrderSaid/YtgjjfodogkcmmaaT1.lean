/- ghost: a tally by what it holds; New, Of, walked. -/
import Derived.Test.YtgjjfodogkcmmaaT0
namespace Go.Proofs.Ytgjjfodogkcmmaa.Gh
open Go Go.RowKit Ytgjjfodogkcmmaa.So
/-- What is held: numbers, and whom the halves of each name. -/
abbrev GS := List (Int × List Int)
def cnt (S : GS) (x : Int) : Nat := (S.map fun e => e.2.count x).sum
def heldG (S : GS) (x : Int) : Prop := ∃ e ∈ S, e.1 = x
/-- A count at each key, 0 being none. -/
def nV (c : Int → Nat) : Int → Option Value := fun x => if c x = 0 then none else some (.int .i64 (c x))
def u32s (L : List Int) : List Value := L.map fun x => .int .u32 x
theorem u32s_app (A B : List Int) : u32s (A ++ B) = u32s A ++ u32s B := by simp [u32s]
theorem u32s_len (A : List Int) : (u32s A).length = A.length := by simp [u32s]
structure TAt (w : World) (B m : Nat) (F : Nat → Prop) (p a b : Nat) (V : Int → Option Value) (c : Int → Nat) (S : GS) : Prop where
  cell : w.heap[p]? = some (.cells #[.map (some a), .map (some b)] 82 (0, 0))
  fars : MapV (.slice none 0 0) w a m V
  named : MapV (.int .i64 0) w b m (nV c)
  ab : a ≠ b
  rows : ∀ e ∈ S, ∃ v, V e.1 = some v ∧ w.ownsRow B 24 1 v e.2.length (u32s e.2) ∧ ∀ g, v.ownBlock = some g → F g
  only : ∀ k, In32 k → V k ≠ none → heldG S k
  keys : (S.map Prod.fst).Nodup
  wf : ∀ e ∈ S, In32 e.1 ∧ ∀ x ∈ e.2, In32 x
  base : B ≤ w.heap.size
  fp : F p
  fa : F a
  fb : F b
  hi : ∀ k, F k → k < w.heap.size
  low : ∀ k, F k → B ≤ k
theorem row_cells {w : World} {B : Nat} {v : Value} {n : Nat} {xs : List Value} (h : w.ownsRow B 24 1 v n xs) {g : Nat} (hg : v.ownBlock = some g) : ∃ cur, w.heap[g]? = some (.cells cur 24 (0, 0)) := by
  rcases h.2 with ⟨rfl, _⟩ | ⟨g', cap, cur, rfl, _, h2, _⟩
  · simp [Value.ownBlock] at hg
  · simp [Value.ownBlock] at hg
    subst hg
    exact ⟨cur, h2⟩
theorem map_block {zd : Value} {w : World} {b n : Nat} {V : Int → Option Value} (h : MapV zd w b n V) : ∃ es clock, w.heap[b]? = some (.map es clock) := by
  obtain ⟨D, ⟨es, clock, h1, _⟩, _⟩ := h
  exact ⟨es, clock, h1⟩
theorem TAt.on {w w' : World} {B m p a b : Nat} {F G : Nat → Prop} {V : Int → Option Value} {c : Int → Nat} {S : GS} (h : TAt w B m F p a b V c S) (ht : Turned G w w') (hF : ∀ k, F k → ¬ G k) : TAt w' B m F p a b V c S :=
  ⟨(ht.block p (h.hi p h.fp) (hF p h.fp)).trans h.cell, h.fars.on ht (hF a h.fa), h.named.on ht (hF b h.fb), h.ab, fun e he => by
    obtain ⟨v, h1, h2, h3⟩ := h.rows e he
    exact ⟨v, h1, own_on h2 (fun g hg => ht.block g (h.hi g (h3 g hg)) (hF g (h3 g hg))), h3⟩,
    h.only, h.keys, h.wf, Nat.le_trans h.base ht.size, h.fp, h.fa, h.fb, fun k hk => Nat.lt_of_lt_of_le (h.hi k hk) ht.size, h.low⟩
theorem TAt.below {w w' : World} {B m p a b : Nat} {F : Nat → Prop} {V : Int → Option Value} {c : Int → Nat} {S : GS} (h : TAt w B m F p a b V c S) (hb : Below w.heap.size w w') : TAt w' B m F p a b V c S := h.on (G := fun _ => False) (below_any hb) (fun _ _ => id)
theorem TAt.pa {w : World} {B m p a b : Nat} {F : Nat → Prop} {V : Int → Option Value} {c : Int → Nat} {S : GS} (h : TAt w B m F p a b V c S) : p ≠ a ∧ p ≠ b := by
  obtain ⟨_, _, h1⟩ := map_block h.fars
  obtain ⟨_, _, h2⟩ := map_block h.named
  refine ⟨fun e => ?_, fun e => ?_⟩
  · have := h.cell; rw [e, h1] at this; cases this
  · have := h.cell; rw [e, h2] at this; cases this
theorem TAt.cells {w : World} {B m p a b : Nat} {F : Nat → Prop} {V : Int → Option Value} {c : Int → Nat} {S : GS} (h : TAt w B m F p a b V c S) : w.cell? ⟨p, 0, none⟩ = some (.map (some a)) ∧ w.cell? ⟨p, 1, none⟩ = some (.map (some b)) := by
  have := h.cell
  simp [World.cell?, this]
/-- A tally. -/
def Tl (w : World) (B m : Nat) (F : Nat → Prop) (p : Nat) (S : GS) : Prop := ∃ a b V, TAt w B m F p a b V (cnt S) S ∧ ∀ x, cnt S x ≤ m
theorem Tl.below {w w' : World} {B m p : Nat} {F : Nat → Prop} {S : GS} (h : Tl w B m F p S) (hb : Below w.heap.size w w') : Tl w' B m F p S := by
  obtain ⟨a, b, V, h, h2⟩ := h
  exact ⟨a, b, V, h.below hb, h2⟩
theorem Tl.on {w w' : World} {B m p : Nat} {F G : Nat → Prop} {S : GS} (h : Tl w B m F p S) (ht : Turned G w w') (hF : ∀ k, F k → ¬ G k) : Tl w' B m F p S := by
  obtain ⟨a, b, V, h, h2⟩ := h
  exact ⟨a, b, V, h.on ht hF, h2⟩
def Did (w : World) (B m : Nat) (F : Nat → Prop) (p : Nat) (S : GS) (w' : World) : Prop := ∃ F', Tl w' B m F' p S ∧ (∀ k, F' k → F k ∨ w.heap.size ≤ k) ∧ Turned F w w'
theorem cnt_nil (x : Int) : cnt [] x = 0 := rfl
theorem nV_zero : nV (fun _ => 0) = fun _ => none := by funext x; simp [nV]
set_option maxRecDepth 100000 in
theorem new_any (B : Nat) (w : World) (hB : B ≤ w.heap.size) : Calls Try.prog 19 #[] w fun e w' => e = .returned (.pointer (some ⟨w.heap.size + 2, 0, none⟩)) ∧ Tl w' B 0 (fun k => w.heap.size ≤ k ∧ k < w.heap.size + 3) (w.heap.size + 2) [] ∧ Below w.heap.size w w' := by
  have hmm := @run_makeMap Try.prog
  have h1 := Lib.hid (MapV.made (.slice none 0 0) w)
  have h2 := Lib.hid (MapV.made (.int .i64 0) (w.alloc (.map #[] 0)))
  go_enter Try.func19, Try.ntmps19
  go_wp2
  go_ret
  have b1 : Below w.heap.size w (w.alloc (.map #[] 0)) := (Below.refl _ w).alloc (Nat.le_refl _) _
  have b2 : Below w.heap.size w ((w.alloc (.map #[] 0)).alloc (.map #[] 0)) := b1.alloc (by simp) _
  have z1 : (w.alloc (.map #[] 0)).heap.size = w.heap.size + 1 := by simp
  have z2 : ((w.alloc (.map #[] 0)).alloc (.map #[] 0)).heap.size = w.heap.size + 2 := by simp
  refine ⟨by simp, ⟨w.heap.size, w.heap.size + 1, fun _ => none, ?_, fun x => Nat.le_of_eq (cnt_nil x)⟩, b2.alloc b2.size _⟩
  have hn := heap_alloc_new ((w.alloc (.map #[] 0)).alloc (.map #[] 0)) (.cells #[.map (some w.heap.size), .map (some (w.heap.size + 1))] 82)
  rw [z2] at hn
  refine ⟨by simpa using hn, ?_, ?_, by omega, by simp, fun k _ h => absurd rfl h, by simp, by simp, by simp; omega, ⟨by omega, by omega⟩, ⟨by omega, by omega⟩, ⟨by omega, by omega⟩, fun k hk => by simp; omega, fun k hk => by omega⟩
  · exact (h1.out.kept (World.grownBy_alloc _ _ none) (by simp)).kept (World.grownBy_alloc _ _ none) (by simp)
  · have h3 := h2.out
    rw [z1] at h3
    show MapV _ _ _ _ (nV (fun _ => 0))
    rw [nV_zero]
    exact h3.kept (World.grownBy_alloc _ _ none) (by simp)
theorem of_nil (x : Int) (w : World) : Calls Try.prog 24 #[.pointer none, .int .u32 x] w fun e w' => e = .returned (.int .i64 0) ∧ w = w' := by
  go_enter Try.func24, Try.ntmps24
  go_wp2
  go_ret
  exact ⟨rfl, rfl⟩
end Go.Proofs.Ytgjjfodogkcmmaa.Gh
