/- ghost: Cuts, walked. -/
import Derived.Test.YtbiiiniffkjgcaaU1
import Derived.Test.YtbiiiniffkjgcaaShelf
namespace Go.Proofs.Ytbiiiniffkjgcaa.Gh
open Go Go.RowKit Ytbiiiniffkjgcaa.So
theorem cut1_any (B m p bx : Nat) (F : Nat → Prop) (S : GS) (x : Int) (w : World) (h : Tl w B m F p S) (hx : In32 x) (hb : w.cell? ⟨bx, 0, none⟩ = some (.pointer (some ⟨p, 0, none⟩))) :
    Calls Try.prog 32 #[.int .u32 x, .pointer (some ⟨bx, 0, none⟩)] w fun e w' => e = .returned (.bool (decide (0 < ofG S x))) ∧ w' = w := by
  have HO := Lib.hid (of_any B m p F S x w h hx)
  obtain ⟨q, hq⟩ : ∃ q, ofG S x = q := ⟨_, rfl⟩
  rw [hq] at HO ⊢
  clear h hq
  go_enter Try.func32, Try.ntmps32
  go_wp2_with (go_at_call 24; refine HO.out.mono ?_; rintro e _ ⟨rfl, rfl⟩)
  go_ret
  exact ⟨by simp, rfl⟩
/-- Numbers as numbers. -/
abbrev N32 := {x : Int // In32 x}
instance : Inhabited N32 := ⟨⟨0, in32 (by omega) (by omega)⟩⟩
def toN : (X : List Int) → (∀ x ∈ X, In32 x) → List N32
  | [], _ => []
  | x :: X, h => ⟨x, h x (List.mem_cons_self ..)⟩ :: toN X (fun y hy => h y (List.mem_cons_of_mem _ hy))
theorem toN_map : ∀ (X : List Int) (h : ∀ x ∈ X, In32 x), (toN X h).map Subtype.val = X
  | [], _ => rfl
  | x :: X, h => by simp [toN, toN_map X]
theorem toN_len (X : List Int) (h : ∀ x ∈ X, In32 x) : (toN X h).length = X.length := by
  have := congrArg List.length (toN_map X h)
  simpa using this
def gB (S : GS) (y : Int) : Bool := decide (0 < ofG S y)
theorem contains_any (B m p bx : Nat) (F : Nat → Prop) (S : GS) (w : World) (h : Tl w B m F p S) (hb : w.cell? ⟨bx, 0, none⟩ = some (.pointer (some ⟨p, 0, none⟩))) (hbl : bx < w.heap.size) (ao : Option Addr) (cap : Nat) (X : List Int)
    (hX : ∀ (i : Nat) (x : Int), X[i]? = some x → In32 x ∧ ∃ g, ao = some ⟨g, 0, none⟩ ∧ w.cell? ⟨g, i, none⟩ = some (.int .u32 x)) (hn : X.length ≤ 1000000000) :
    Calls Try.prog 33 #[.slice ao X.length cap, .func (.func 32) #[] #[.pointer (some ⟨bx, 0, none⟩)]] w fun e w' => e = .returned (.bool (X.any (gB S))) ∧ ∃ q, w' = w.drewN q := by
  cases X with
  | nil =>
    refine (Try.slices_ContainsFunc_empty (α := N32) ao cap _ w).mono ?_
    rintro e w' ⟨rfl, rfl⟩
    exact ⟨rfl, 0, rfl⟩
  | cons x0 X0 =>
    obtain ⟨X, hXe⟩ : ∃ X, x0 :: X0 = X := ⟨_, rfl⟩
    rw [hXe] at hX hn ⊢
    obtain ⟨g, rfl, _⟩ := (hX 0 x0 (by rw [← hXe]; rfl)).2
    have h32 : ∀ x ∈ X, In32 x := fun x hx => by
      obtain ⟨i, hi⟩ := List.getElem?_of_mem hx
      exact (hX i x hi).1
    have hc := Try.slices_ContainsFunc (α := N32) (fun x => .int .u32 x.1) (fun x => gB S x.1) 32 #[.pointer (some ⟨bx, 0, none⟩)] (fun args w => by kernel_rfl) g 0 X.length cap (toN X h32) w
      (fun W x hW => (cut1_any B m p bx F S x.1 W (h.below hW) x.2 ((hW.cell (p := ⟨bx, 0, none⟩) hbl).trans hb)).mono (fun e w' hh => ⟨hh.1, 0, hh.2⟩)) (by rw [toN_len]; exact Nat.le_refl _) (by omega) (fun j hj => by
        rw [toN_len] at hj
        have h1 : X[j]? = some X[j] := List.getElem?_eq_getElem hj
        obtain ⟨_, g', e', hcell⟩ := hX j _ h1
        simp only [Option.some.injEq, Addr.mk.injEq, and_true] at e'
        subst e'
        have h2 : ((toN X h32)[j]!).1 = X[j] := by
          have h3 : j < (toN X h32).length := by rw [toN_len]; exact hj
          rw [getElem!_pos (toN X h32) j h3]
          have h4 := congrArg (fun l => l[j]?) (toN_map X h32)
          simp only [List.getElem?_map, List.getElem?_eq_getElem h3, h1, Option.map_some, Option.some.injEq] at h4
          exact h4
        rw [Nat.zero_add, h2]
        exact hcell)
    refine hc.mono ?_
    rintro e w' ⟨rfl, hq⟩
    refine ⟨?_, hq⟩
    have h5 : ((toN X h32).take X.length).any (fun x => gB S x.1) = X.any (gB S) := by
      rw [List.take_of_length_le (by rw [toN_len]; exact Nat.le_refl _)]
      have : X.any (gB S) = ((toN X h32).map Subtype.val).any (gB S) := by rw [toN_map]
      rw [this, List.any_map]
      rfl
    rw [h5]
/-- Which of some numbers' rows name a ghost. -/
def sel (S : GS) (ss : List Int) : List Int := ss.filter fun k => (rowG S k).any (gB S)
theorem sel_snoc (S : GS) (ss : List Int) (x : Int) : sel S (ss ++ [x]) = sel S ss ++ (if (rowG S x).any (gB S) then [x] else []) := by
  unfold sel
  rw [List.filter_append]
  congr 1
  by_cases h : (rowG S x).any (gB S) = true
  · simp [h]
  · simp only [Bool.not_eq_true] at h; simp [h]
/-- What Cuts answers: the held numbers whose row names a ghost, rising. -/
def CutSet (S : GS) (L : List Int) : Prop := Rise L ∧ (∀ x ∈ L, In32 x) ∧ ∀ x, In32 x → (x ∈ L ↔ heldG S x ∧ (rowG S x).any (gB S) = true)
def CutOf (S : GS) (w : World) (e : Ending) (w' : World) : Prop := ∃ ao cap L, e = .returned (.slice ao L.length cap) ∧ CutSet S L ∧ w'.ownsRow w.heap.size 24 1 (.slice ao L.length cap) L.length (u32s L) ∧ Below w.heap.size w w'
end Go.Proofs.Ytbiiiniffkjgcaa.Gh
