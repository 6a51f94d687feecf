/- The sort of numbers: a row of the call's own; the order of two; insertion, walked. -/
import Derived.Test.YtgjjfodogkcmmaaProg
import Derived.Test.YtgjjfodogkcmmaaChecked
import Derived.Test.YtgjjfodogkcmmaaS0
import Derived.WalkKit
import Derived.BigRegion
import Derived.BigQuiet
import Derived.Lib.Hide
import Derived.Lib.OwnBridge
import Derived.Deep.AppendLies
import Derived.Deep.RegionLaw
import Derived.Deep.RegionHeld3
import Derived.OwnWalk
import Derived.IntWalk
import Derived.Laws.CopyOwn
import Derived.Deep.LoopGhost
import Derived.Shelf.Abstract
import Derived.Laws.CopyRow
import Derived.Lib.SliceRun
import Derived.Lib.Overlaps
import Derived.Deep.CutBlock
import Derived.Deep.DeepCutAuto
import Derived.Deep.RegionWith
namespace Go.Proofs.Ytgjjfodogkcmmaa.So
open Go Go.RowKit
/-- Of what was there the blocks of G alone have turned. -/
structure Turned (G : Nat → Prop) (w w' : World) : Prop where
  os : w'.os = w.os
  tape : w'.tape = w.tape
  output : w'.output = w.output
  size : w.heap.size ≤ w'.heap.size
  block : ∀ k, k < w.heap.size → ¬ G k → w'.heap[k]? = w.heap[k]?
theorem Turned.refl (G : Nat → Prop) (w : World) : Turned G w w := ⟨rfl, rfl, rfl, Nat.le_refl _, fun _ _ _ => rfl⟩
theorem Turned.of_grown {w w' : World} {r : Option Nat} (h : w.grownBy w' r) {G : Nat → Prop} (hr : ∀ k, r = some k → G k) : Turned G w w' :=
  ⟨h.os, h.tape, h.output, h.size, fun k hk hG => h.block k hk (fun e => hG (hr k e.symm))⟩
theorem Turned.trans {G H : Nat → Prop} {a b c : World} (h : Turned G a b) (k : Turned H b c) (hH : ∀ i, H i → G i ∨ a.heap.size ≤ i) : Turned G a c :=
  ⟨k.os.trans h.os, k.tape.trans h.tape, k.output.trans h.output, Nat.le_trans h.size k.size, fun i hi hG => (k.block i (Nat.lt_of_lt_of_le hi h.size) (fun e => (hH i e).elim hG (fun h' => by omega))).trans (h.block i hi hG)⟩
theorem Turned.then {G : Nat → Prop} {a b c : World} (h : Turned G a b) (k : Turned G b c) : Turned G a c := h.trans k (fun _ => .inl)
theorem Turned.mono {G H : Nat → Prop} {a b : World} (h : Turned G a b) (hH : ∀ i, G i → H i) : Turned H a b := ⟨h.os, h.tape, h.output, h.size, fun i hi hG => h.block i hi (fun e => hG (hH i e))⟩
theorem Turned.below {G : Nat → Prop} {w w' : World} (h : Turned G w w') {B : Nat} (hB : B ≤ w.heap.size) (hG : ∀ k, G k → B ≤ k) : Below B w w' :=
  ⟨h.os, h.tape, h.output, h.size, fun k hk => h.block k (by omega) (fun e => by have := hG k e; omega)⟩
theorem below_turned {w w' : World} {G : Nat → Prop} {B : Nat} (h : Below B w w') (hG : ∀ k, k < w.heap.size → B ≤ k → G k) : Turned G w w' :=
  ⟨h.os, h.tape, h.output, h.size, fun k hk hn => h.block k (Nat.lt_of_not_le fun e => hn (hG k hk e))⟩
theorem below_any {w w' : World} {G : Nat → Prop} (h : Below w.heap.size w w') : Turned G w w' := below_turned h (fun k h1 h2 => by omega)
theorem turned_drewN (G : Nat → Prop) (w : World) (n : Nat) : Turned G w (w.drewN n) := ⟨rfl, rfl, rfl, Nat.le_refl _, fun _ _ _ => rfl⟩
theorem turned_drew (G : Nat → Prop) (w : World) : Turned G w w.drew := ⟨rfl, rfl, rfl, Nat.le_refl _, fun _ _ _ => rfl⟩
theorem grown_set (w : World) (b i : Nat) (v : Value) : w.grownBy (w.setCell ⟨b, i, none⟩ v) (some b) :=
  ⟨rfl, rfl, rfl, by simp, fun k _ hk => by
    show (w.heap.modify b _)[k]? = _
    rw [Array.getElem?_modify, if_neg (fun e => hk (by rw [e]))]⟩
theorem turned_set (w : World) (b i : Nat) (v : Value) : Turned (fun k => k = b) w (w.setCell ⟨b, i, none⟩ v) := .of_grown (grown_set w b i v) (fun k e => by injection e with e; exact e.symm)
def cs (n : Nat) (f : Fn) : List Value := (List.range n).map fun k => .int .u32 (f k)
theorem cs_len (n : Nat) (f : Fn) : (cs n f).length = n := by simp [cs]
theorem cs_at {n i : Nat} (f : Fn) (h : i < n) : (cs n f)[i]? = some (.int .u32 (f i)) := by simp [cs, h]
theorem cs_swap {n i j : Nat} (f : Fn) (hi : i < n) (hj : j < n) : ((cs n f).set i (.int .u32 (f j))).set j (.int .u32 (f i)) = cs n (sw f i j) := by
  apply List.ext_getElem?
  intro k
  by_cases hk : k < n
  · rw [cs_at _ hk, List.getElem?_set, List.getElem?_set, cs_at _ hk]
    simp only [List.length_set, cs_len, hi, hj, if_true]
    unfold sw
    by_cases h1 : j = k
    · subst h1
      rw [if_pos rfl]
      by_cases h2 : j = i
      · subst h2; rw [if_pos rfl]
      · rw [if_neg h2, if_pos rfl]
    · rw [if_neg h1]
      by_cases h2 : i = k
      · subst h2; rw [if_pos rfl, if_pos rfl]
      · rw [if_neg h2, if_neg (fun e => h2 e.symm), if_neg (fun e => h1 e.symm)]
  · rw [List.getElem?_eq_none (by simp [cs_len]; omega), List.getElem?_eq_none (by rw [cs_len]; omega)]
/-- A row of the call's own in block g, that holds f's first n numbers. -/
def Own (w : World) (B g cap n : Nat) (f : Fn) : Prop := w.ownsRow B 24 1 (.slice (some ⟨g, 0, none⟩) n cap) n (cs n f)
theorem Own.block {w : World} {B g cap n : Nat} {f : Fn} (h : Own w B g cap n f) : ∃ cur, w.heap[g]? = some (.cells cur 24 (0, 0)) ∧ B ≤ g ∧ n ≤ cap ∧ cap ≤ maxLen ∧ ∀ i, i < n → cur[i]? = some (.int .u32 (f i)) := by
  rcases h.2 with ⟨h', _⟩ | ⟨g', cap', cur, h', hb, hg, hnc, hcm, hcs, htake⟩
  · simp at h'
  · simp only [Value.slice.injEq, Option.some.injEq, Addr.mk.injEq, and_true, true_and] at h'
    obtain ⟨rfl, rfl⟩ := h'
    refine ⟨cur, hg, hb, hnc, hcm, fun i hi => ?_⟩
    rw [← cs_at f hi, ← htake, List.getElem?_take, if_pos (by omega)]
    simp
theorem Own.cell {w : World} {B g cap n i : Nat} {f : Fn} (h : Own w B g cap n f) (hi : i < n) : w.cell? ⟨g, i, none⟩ = some (.int .u32 (f i)) := by
  obtain ⟨cur, h1, _, _, _, h2⟩ := h.block
  simp [World.cell?, h1, h2 i hi]
theorem Own.free {w : World} {B g cap n : Nat} {f : Fn} (h : Own w B g cap n f) (i : Nat) : w.frozen? ⟨g, i, none⟩ = false := by
  obtain ⟨cur, h1, _⟩ := h.block
  simp [World.frozen?, h1]
theorem Own.lt {w : World} {B g cap n : Nat} {f : Fn} (h : Own w B g cap n f) : g < w.heap.size := by
  obtain ⟨cur, h1, _⟩ := h.block
  exact (Array.getElem?_eq_some_iff.1 h1).1
theorem Own.swap {w : World} {B g cap n i j : Nat} {f : Fn} (h : Own w B g cap n f) (hi : i < n) (hj : j < n) : Own ((w.setCell ⟨g, i, none⟩ (.int .u32 (f j))).setCell ⟨g, j, none⟩ (.int .u32 (f i))) B g cap n (sw f i j) := by
  have h1 := (h.stored i (.int .u32 (f j))).1
  have h2 := (h1.stored j (.int .u32 (f i))).1
  unfold Own
  rw [← cs_swap f hi hj]
  exact h2
theorem own_on {W W' : World} {B e size k : Nat} {v : Value} {xs : List Value} (h : W.ownsRow B e size v k xs) (hs : ∀ g, v.ownBlock = some g → W'.heap[g]? = W.heap[g]?) : W'.ownsRow B e size v k xs := by
  refine ⟨h.1, ?_⟩
  rcases h.2 with h0 | ⟨g, cap, cur, e, e1, e2, e3⟩
  · exact .inl h0
  · exact .inr ⟨g, cap, cur, e, e1, (hs g (by rw [e]; rfl)).trans e2, e3⟩
theorem Own.on {w w' : World} {B g cap n : Nat} {f : Fn} {G : Nat → Prop} (h : Own w B g cap n f) (ht : Turned G w w') (hG : ¬ G g) : Own w' B g cap n f :=
  own_on h (fun k e => by
    have : g = k := by simpa [Value.ownBlock] using e
    subst this
    exact ht.block _ h.lt hG)
/-- The row now holds f, and nothing else has turned. -/
def Has (w0 : World) (B g cap n : Nat) (f : Fn) (w : World) : Prop := Own w B g cap n f ∧ Turned (fun k => k = g) w0 w
theorem Has.refl {w : World} {B g cap n : Nat} {f : Fn} (h : Own w B g cap n f) : Has w B g cap n f w := ⟨h, .refl _ _⟩
theorem Has.trans {a b c : World} {B g cap n : Nat} {f f' : Fn} (h : Has a B g cap n f b) (k : Has b B g cap n f' c) : Has a B g cap n f' c := ⟨k.1, h.2.then k.2⟩
theorem Has.drewN {a b : World} {B g cap n : Nat} {f : Fn} (h : Has a B g cap n f b) (q : Nat) : Has a B g cap n f (b.drewN q) := ⟨own_on h.1 (fun _ _ => rfl), h.2.then (turned_drewN _ _ _)⟩
theorem Has.drew {a b : World} {B g cap n : Nat} {f : Fn} (h : Has a B g cap n f b) : Has a B g cap n f b.drew := ⟨own_on h.1 (fun _ _ => rfl), h.2.then (turned_drew _ _)⟩
theorem Has.swap {a b : World} {B g cap n i j : Nat} {f : Fn} (h : Has a B g cap n f b) (hi : i < n) (hj : j < n) : Has a B g cap n (sw f i j) ((b.setCell ⟨g, i, none⟩ (.int .u32 (f j))).setCell ⟨g, j, none⟩ (.int .u32 (f i))) :=
  ⟨h.1.swap hi hj, (h.2.then (turned_set _ _ _ _)).then (turned_set _ _ _ _)⟩
theorem nan81 (x : Int) (w : World) : Calls Try.prog 81 #[.int .u32 x] w fun e w' => e = .returned (.bool false) ∧ w' = w := by
  go_enter Try.func81, Try.ntmps81
  go_wp2_with fail
  go_ret
  exact ⟨by simp, rfl⟩
theorem less_any (x y : Int) (w : World) : Calls Try.prog 66 #[.int .u32 x, .int .u32 y] w fun e w' => e = .returned (.bool (decide (x < y))) ∧ w' = w := by
  go_enter Try.func66, Try.ntmps66
  go_wp2_with (first | (go_at_call 81; refine (nan81 _ _).mono ?_; rintro e _ ⟨rfl, rfl⟩))
  go_ret
  exact ⟨by simp, rfl⟩
end Go.Proofs.Ytgjjfodogkcmmaa.So
