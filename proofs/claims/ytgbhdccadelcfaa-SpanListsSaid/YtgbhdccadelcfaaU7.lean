/- A list that is being made beside the document's set; what the deeds of a list come to. -/
import Derived.Test.YtgbhdccadelcfaaU6
import Derived.Test.YtgbhdccadelcfaaT4
import Derived.Test.YtgbhdccadelcfaaT5
import Derived.Test.YtgbhdccadelcfaaR5
namespace Go.Proofs.Ytgbhdccadelcfaa.Sp
open Go Go.RowKit
def vD (X : SL) : DL := X.flatMap fun t => if t.1 ≤ t.2 then [(t.1, t.2, true)] else []
theorem vD_snoc (X : SL) (t : Int × Int) : vD (X ++ [t]) = vD X ++ (if t.1 ≤ t.2 then [(t.1, t.2, true)] else []) := by simp [vD]
theorem vD_len (X : SL) : (vD X).length ≤ X.length := by
  induction X with
  | nil => simp [vD]
  | cons t X ih =>
    have e : vD (t :: X) = (if t.1 ≤ t.2 then [(t.1, t.2, true)] else []) ++ vD X := by simp [vD]
    rw [e, List.length_append, List.length_cons]
    split <;> simp <;> omega
theorem vD_in (X : SL) (h : ∀ t ∈ X, (0 ≤ t.1 ∧ t.1 ≤ 4294967295) ∧ (0 ≤ t.2 ∧ t.2 ≤ 4294967295)) : InD (vD X) := fun d hd => by
  obtain ⟨t, ht, hd⟩ := List.mem_flatMap.1 hd
  have := h t ht
  by_cases hab : t.1 ≤ t.2
  · rw [if_pos hab, List.mem_singleton] at hd
    subst hd
    simp only
    omega
  · rw [if_neg hab] at hd
    cases hd
theorem vD_fold (X : SL) (h : ∀ t ∈ X, t.1 ≤ t.2) (n : Int) : ∀ acc : Bool, ((vD X).foldl (fun acc d => if d.1 ≤ n ∧ n ≤ d.2.1 then d.2.2 else acc) acc = true) ↔ acc = true ∨ mem X n := by
  induction X with
  | nil => intro acc; simp [vD, mem_none]
  | cons t X ih =>
    intro acc
    have ht := h t List.mem_cons_self
    have e : vD (t :: X) = (t.1, t.2, true) :: vD X := by simp [vD, ht]
    rw [e, List.foldl_cons, ih (fun s hs => h s (List.mem_cons_of_mem _ hs)), mem_cons]
    by_cases hn : t.1 ≤ n ∧ n ≤ t.2 <;> simp [hn]
theorem vD_sp {X S : SL} (h : ∀ t ∈ X, t.1 ≤ t.2) (hS : Canon S) (hm : ∀ n, mem S n ↔ mem X n) : SpOf (vD X) S :=
  ⟨hS, fun n _ _ => by
    rw [hm n]
    unfold hasD
    rw [vD_fold X h n false]
    simp⟩
structure InAt (n0 : Nat) (w0 wr : World) (q : Nat) (v : Value) (X : SL) (D : DL) (u : Value) (F : Nat → Prop) : Prop where
  row : wr.ownsRow n0 46 2 v X.length (fl X)
  ref : RefAt wr n0 q F u D
  ap : ∀ g, v.ownBlock = some g → ¬ F g
  ahead : Below n0 w0 wr
/-- A list of the call's own that is being made, and the document's set beside it. -/
def InS (n0 : Nat) (w0 : World) (q : Nat) (v : Value) (X : SL) (D : DL) (wr : World) : Prop := ∃ u F, InAt n0 w0 wr q v X D u F
variable {n0 q : Nat} {w0 wr w' : World} {v : Value} {X : SL} {D : DL}
theorem InS.below (h : InS n0 w0 q v X D wr) (hb : Below wr.heap.size wr w') : InS n0 w0 q v X D w' := by
  obtain ⟨u, F, h⟩ := h
  exact ⟨u, F, own_on h.row (fun g e => hb.block g (World.ownsRow.lt h.row g e).2), h.ref.below hb, h.ap, h.ahead.trans (hb.mono h.ref.base)⟩
theorem InS.ahead (h : InS n0 w0 q v X D wr) : Below n0 w0 wr := by
  obtain ⟨u, F, h⟩ := h
  exact h.ahead
theorem InS.base (h : InS n0 w0 q v X D wr) : n0 ≤ wr.heap.size := by
  obtain ⟨u, F, h⟩ := h
  exact h.ref.base
theorem InS.row (h : InS n0 w0 q v X D wr) : wr.ownsRow n0 46 2 v X.length (fl X) := by
  obtain ⟨u, F, h⟩ := h
  exact h.row
theorem InS.ref (h : InS n0 w0 q v X D wr) : RefIs n0 wr q D := by
  obtain ⟨u, F, h⟩ := h
  exact ⟨F, u, h.ref⟩
theorem ins_do (h : InS n0 w0 q v X D wr) (a b : Int) (c : Bool) (hab : a ≤ b) (hD : D.length ≤ 1000) :
    Calls Try.prog 12 #[.pointer (some ⟨q, 0, none⟩), .int .u32 a, .int .u32 b, .bool c] wr fun e w' => e = .returned (.int .i64 0) ∧ InS n0 w0 q v X (D ++ [(a, b, c)]) w' := by
  obtain ⟨u, F, h⟩ := h
  refine (refdo_ok n0 q F u D a b c wr h.ref hab hD).mono ?_
  rintro e w' ⟨rfl, u', F', k1, k2, k3⟩
  refine ⟨rfl, u', F', own_on h.row (fun g e => k3.block g (World.ownsRow.lt h.row g e).2 (h.ap g e)), k1, fun g e hf => ?_, h.ahead.trans (k3.below h.ref.base h.ref.low)⟩
  rcases k2 g hf with k4 | k4
  · exact h.ap g e k4
  · have := (World.ownsRow.lt h.row g e).2; omega
theorem ins_app {g c k : Nat} {t : Int × Int} (h : InS n0 w0 q v X D wr) (hk : X.length = k) (ho : w'.ownsRow n0 46 2 (.slice (some ⟨g, 0, none⟩) (k + 1) c) (k + 1) (fl X ++ fl [t])) (hg : wr.grownBy w' v.ownBlock) (hat : v.ownBlock = some g ∨ g = wr.heap.size) :
    InS n0 w0 q (.slice (some ⟨g, 0, none⟩) (k + 1) c) (X ++ [t]) D w' := by
  obtain ⟨u, F, h⟩ := h
  have ht : Turned (fun j => v.ownBlock = some j) wr w' := Turned.of_grown hg (fun j e => e)
  refine ⟨u, F, ?_, h.ref.on ht (fun j hj e => h.ap j e hj), fun j e hf => ?_, h.ahead.trans (ht.below h.ref.base (fun j e => (World.ownsRow.lt h.row j e).1))⟩
  · rw [fl_app, List.length_append, hk]
    exact ho
  · have : g = j := by simpa [Value.ownBlock] using e
    subst this
    rcases hat with e' | e'
    · exact h.ap g e' hf
    · have := h.ref.hi g hf; omega
theorem ins_start {w : World} (hb : Below n0 w0 w) (hn : n0 ≤ w.heap.size) : InS n0 w0 w.heap.size (.slice none 0 0) [] [] (w.alloc (.cells #[.slice none 0 0] 29)) :=
  ⟨.slice none 0 0, fun k => k = w.heap.size, World.ownsRow_nil _ _ _ _, ⟨heap_alloc_new w _, World.ownsRow_nil _ _ _ _, by simp; omega, rfl, fun g e => by simp [Value.ownBlock] at e, fun k hk => by subst hk; simp, fun k hk => by omega⟩, fun g e => by simp [Value.ownBlock] at e, hb.alloc hn _⟩
theorem meet_nil (p : Nat) (w : World) : Calls Try.prog 24 #[.pointer (some ⟨p, 0, none⟩), .pointer none] w fun e w' => e = .returned (.tuple #[.pointer none, .int .i64 6]) ∧ w = w' := by
  go_enter Try.func24, Try.ntmps24
  go_wp2_with fail
  go_ret2
  exact ⟨rfl, rfl⟩
end Go.Proofs.Ytgbhdccadelcfaa.Sp
