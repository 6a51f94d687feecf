/- The sort's mathematics: what swaps do to a row of numbers. -/
import Derived.Lib.Hide
import Derived.Test.YtafenkepigmcaaaGreatDoorProg
import Derived.Test.YtafenkepigmcaaaGreatDoorChecked
import Derived.WalkKit
import Derived.BigRegion
import Derived.BigQuiet
import Derived.Lib.OwnBridge
import Derived.Deep.AppendLies
import Derived.Deep.RegionLaw
import Derived.Deep.RegionHeld3
import Derived.OwnWalk
import Derived.IntWalk
import Derived.Laws.CopyOwn
import Derived.Deep.LoopGhost
import Derived.Shelf.Abstract
import Derived.Laws.CopyRow
import Derived.Lib.SliceRun
import Derived.Lib.Overlaps
import Derived.Deep.CutBlock
import Derived.Deep.DeepCutAuto
import Derived.Deep.RegionWith
namespace Go.Proofs.YtafenkepigmcaaaGreatDoor.So
abbrev Fn := Nat → Int
def sw (f : Fn) (i j : Nat) : Fn := fun k => if k = i then f j else if k = j then f i else f k
/-- By swaps between a and b. -/
inductive Sw (a b : Nat) : Fn → Fn → Prop
  | refl (f : Fn) : Sw a b f f
  | step {f g : Fn} {i j : Nat} : Sw a b f g → a ≤ i → i < b → a ≤ j → j < b → Sw a b f (sw g i j)
theorem Sw.one {a b : Nat} (f : Fn) {i j : Nat} (h1 : a ≤ i) (h2 : i < b) (h3 : a ≤ j) (h4 : j < b) : Sw a b f (sw f i j) := .step (.refl f) h1 h2 h3 h4
theorem Sw.trans {a b : Nat} {f g h : Fn} (h1 : Sw a b f g) (h2 : Sw a b g h) : Sw a b f h := by
  induction h2 with
  | refl => exact h1
  | step _ p q r s ih => exact .step ih p q r s
theorem Sw.mono {a b c d : Nat} {f g : Fn} (h : Sw a b f g) (h1 : c ≤ a) (h2 : b ≤ d) : Sw c d f g := by
  induction h with
  | refl => exact .refl _
  | step _ p q r s ih => exact .step ih (by omega) (by omega) (by omega) (by omega)
theorem Sw.out {a b : Nat} {f g : Fn} (h : Sw a b f g) : ∀ k, (k < a ∨ b ≤ k) → g k = f k := by
  induction h with
  | refl => exact fun _ _ => rfl
  | step _ p q r s ih =>
    intro k hk
    rw [← ih k hk]
    unfold sw
    rw [if_neg (by omega), if_neg (by omega)]
theorem Sw.all {a b : Nat} {f g : Fn} (h : Sw a b f g) (P : Int → Prop) (hf : ∀ k, a ≤ k → k < b → P (f k)) : ∀ k, a ≤ k → k < b → P (g k) := by
  induction h with
  | refl => exact hf
  | step _ p q r s ih =>
    intro k h1 h2
    unfold sw
    split
    · exact ih _ r s
    · split
      · exact ih _ p q
      · exact ih k h1 h2
def Up (a b : Nat) (f : Fn) : Prop := ∀ i j, a ≤ i → i ≤ j → j < b → f i ≤ f j
theorem up_small {a b : Nat} (f : Fn) (h : b ≤ a + 1) : Up a b f := fun i j h1 h2 h3 => by
  obtain rfl : i = j := by omega
  exact Int.le_refl _
theorem Up.mono {a b c d : Nat} {f : Fn} (h : Up a b f) (h1 : a ≤ c) (h2 : d ≤ b) : Up c d f := fun i j p q r => h i j (by omega) q (by omega)
theorem Up.snoc {a i : Nat} {f : Fn} (h : Up a i f) (h1 : a < i) (h2 : f (i - 1) ≤ f i) : Up a (i + 1) f := fun p q h3 h4 h5 => by
  by_cases e : q = i
  · subst e
    by_cases e2 : p = q
    · subst e2; exact Int.le_refl _
    · have := h p (q - 1) h3 (by omega) (by omega); omega
  · exact h p q h3 h4 (by omega)
theorem Up.eq {a b : Nat} {f g : Fn} (h : Up a b f) (e : ∀ k, a ≤ k → k < b → g k = f k) : Up a b g := fun i j p q r => by
  rw [e i p (by omega), e j (by omega) r]; exact h i j p q r
/-- One number is on its way to the left. -/
def Ins (a j i : Nat) (f : Fn) : Prop := (∀ p q, a ≤ p → p ≤ q → q ≤ i → p ≠ j → q ≠ j → f p ≤ f q) ∧ (∀ q, j < q → q ≤ i → f j ≤ f q)
theorem ins_start {a i : Nat} {f : Fn} (h : Up a i f) : Ins a i i f := ⟨fun p q h1 h2 h3 h4 h5 => h p q h1 h2 (by omega), fun q h1 h2 => by omega⟩
theorem ins_step {a j i : Nat} {f : Fn} (h : Ins a (j + 1) i f) (ha : a ≤ j) (hi : j + 1 ≤ i) (hl : f (j + 1) < f j) : Ins a j i (sw f (j + 1) j) := by
  refine ⟨fun p q h1 h2 h3 h4 h5 => ?_, fun q h1 h2 => ?_⟩
  · unfold sw
    by_cases ep : p = j + 1
    · subst ep
      by_cases eq : q = j + 1
      · subst eq; simp
      · rw [if_pos rfl, if_neg eq, if_neg h5]
        exact h.1 j q ha (by omega) h3 (by omega) eq
    · rw [if_neg ep, if_neg h4]
      by_cases eq : q = j + 1
      · subst eq
        rw [if_pos rfl]
        exact h.1 p j h1 (by omega) (by omega) ep (by omega)
      · rw [if_neg eq, if_neg h5]
        exact h.1 p q h1 h2 h3 ep eq
  · unfold sw
    rw [if_neg (by omega), if_pos rfl]
    by_cases eq : q = j + 1
    · subst eq; rw [if_pos rfl]; omega
    · rw [if_neg eq, if_neg (by omega)]
      exact h.2 q (by omega) h2
theorem ins_end {a j i : Nat} {f : Fn} (h : Ins a j i f) (ha : a ≤ j) (hi : j ≤ i) (he : j = a ∨ f (j - 1) ≤ f j) : Up a (i + 1) f := fun p q h1 h2 h3 => by
  by_cases ep : p = j
  · subst ep
    by_cases eq : q = p
    · subst eq; exact Int.le_refl _
    · exact h.2 q (by omega) (by omega)
  · by_cases eq : q = j
    · subst eq
      rcases he with he | he
      · omega
      · by_cases e1 : p = q - 1
        · subst e1; exact he
        · have := h.1 p (q - 1) h1 (by omega) (by omega) ep (by omega); omega
    · exact h.1 p q h1 h2 (by omega) ep eq
theorem ins_swap {a b j i : Nat} (f : Fn) (ha : a ≤ j) (hi : j + 1 ≤ i) (hb : i < b) : Sw a b f (sw f (j + 1) j) := .one f (by omega) (by omega) ha (by omega)
/-- Nothing from a on is less than what stands ahead of it. -/
def Low (a b : Nat) (f : Fn) : Prop := 0 < a → ∀ k, a ≤ k → k < b → f (a - 1) ≤ f k
theorem Low.sw {a b : Nat} {f g : Fn} (h : Low a b f) (hs : Sw a b f g) : Low a b g := fun h0 k h1 h2 => by
  rw [hs.out (a - 1) (.inl (by omega))]
  exact hs.all (fun x => f (a - 1) ≤ x) (h h0) k h1 h2
theorem Low.part {a b c d : Nat} {f : Fn} (h : Low a b f) (h1 : c = a) (h2 : d ≤ b) : Low c d f := fun h0 k p q => by
  subst h1; exact h h0 k p (by omega)
/-! ### Parts -/
def Part (a b i j : Nat) (f : Fn) : Prop := (∀ k, a < k → k < i → f k < f a) ∧ (∀ k, j < k → k < b → f a ≤ f k)
theorem part_start (a b : Nat) (f : Fn) : Part a b (a + 1) (b - 1) f := ⟨fun k h1 h2 => by omega, fun k h1 h2 => by omega⟩
theorem part_up {a b i j : Nat} {f : Fn} (h : Part a b i j f) (hl : f i < f a) : Part a b (i + 1) j f := ⟨fun k h1 h2 => by
  by_cases e : k = i
  · subst e; exact hl
  · exact h.1 k h1 (by omega), h.2⟩
theorem part_down {a b i j : Nat} {f : Fn} (h : Part a b i (j + 1) f) (hl : f a ≤ f (j + 1)) : Part a b i j f := ⟨h.1, fun k h1 h2 => by
  by_cases e : k = j + 1
  · subst e; exact hl
  · exact h.2 k (by omega) h2⟩
theorem part_swap {a b i j : Nat} {f : Fn} (h : Part a b i (j + 1) f) (ha : a < i) (hij : i < j + 1) (h1 : f a ≤ f i) (h2 : f (j + 1) < f a) : Part a b (i + 1) j (sw f i (j + 1)) := by
  refine ⟨fun k p q => ?_, fun k p q => ?_⟩
  · unfold sw
    rw [if_neg (show a ≠ i by omega), if_neg (show a ≠ j + 1 by omega)]
    by_cases e : k = i
    · subst e; rw [if_pos rfl]; exact h2
    · rw [if_neg e, if_neg (by omega)]; exact h.1 k p (by omega)
  · unfold sw
    rw [if_neg (show a ≠ i by omega), if_neg (show a ≠ j + 1 by omega)]
    by_cases e : k = j + 1
    · subst e; rw [if_neg (by omega), if_pos rfl]; exact h1
    · rw [if_neg (by omega), if_neg e]; exact h.2 k (by omega) q
/-- All ahead of m is less than what stands there, all behind it is not. -/
def Cut (a b m : Nat) (f : Fn) : Prop := (∀ k, a ≤ k → k < m → f k ≤ f m) ∧ (∀ k, m < k → k < b → f m ≤ f k)
theorem part_end {a b j : Nat} {f : Fn} (h : Part a b (j + 1) j f) (ha : a ≤ j) : Cut a b j (sw f j a) := by
  refine ⟨fun k p q => ?_, fun k p q => ?_⟩
  · unfold sw
    rw [if_pos rfl, if_neg (by omega)]
    by_cases e : k = a
    · subst e
      rw [if_pos rfl]
      have := h.1 j (by omega) (by omega); omega
    · rw [if_neg e]
      have := h.1 k (by omega) (by omega); omega
  · unfold sw
    rw [if_pos rfl, if_neg (by omega), if_neg (by omega)]
    exact h.2 k p q
def PartE (a b i j : Nat) (f : Fn) : Prop := (∀ k, a < k → k < i → f k ≤ f a) ∧ (∀ k, j < k → k < b → f a < f k)
theorem parte_start (a b : Nat) (f : Fn) : PartE a b (a + 1) (b - 1) f := ⟨fun k h1 h2 => by omega, fun k h1 h2 => by omega⟩
theorem parte_up {a b i j : Nat} {f : Fn} (h : PartE a b i j f) (hl : f i ≤ f a) : PartE a b (i + 1) j f := ⟨fun k h1 h2 => by
  by_cases e : k = i
  · subst e; exact hl
  · exact h.1 k h1 (by omega), h.2⟩
theorem parte_down {a b i j : Nat} {f : Fn} (h : PartE a b i (j + 1) f) (hl : f a < f (j + 1)) : PartE a b i j f := ⟨h.1, fun k h1 h2 => by
  by_cases e : k = j + 1
  · subst e; exact hl
  · exact h.2 k (by omega) h2⟩
theorem parte_swap {a b i j : Nat} {f : Fn} (h : PartE a b i (j + 1) f) (ha : a < i) (hij : i < j + 1) (h1 : f a < f i) (h2 : f (j + 1) ≤ f a) : PartE a b (i + 1) j (sw f i (j + 1)) := by
  refine ⟨fun k p q => ?_, fun k p q => ?_⟩
  · unfold sw
    rw [if_neg (show a ≠ i by omega), if_neg (show a ≠ j + 1 by omega)]
    by_cases e : k = i
    · subst e; rw [if_pos rfl]; exact h2
    · rw [if_neg e, if_neg (by omega)]; exact h.1 k p (by omega)
  · unfold sw
    rw [if_neg (show a ≠ i by omega), if_neg (show a ≠ j + 1 by omega)]
    by_cases e : k = j + 1
    · subst e; rw [if_neg (by omega), if_pos rfl]; exact h1
    · rw [if_neg (by omega), if_neg e]; exact h.2 k (by omega) q
/-- All ahead of m are one, all behind are greater. -/
def CutE (a b m : Nat) (f : Fn) : Prop := (∀ k, a ≤ k → k < m → f k ≤ f a) ∧ (∀ k, m ≤ k → k < b → f a < f k)
theorem parte_end {a b j : Nat} {f : Fn} (h : PartE a b (j + 1) j f) : CutE a b (j + 1) f := ⟨fun k p q => by
  by_cases e : k = a
  · subst e; exact Int.le_refl _
  · exact h.1 k (by omega) q, fun k p q => h.2 k (by omega) q⟩
/-! ### What is left to be done -/
/-- Whoever puts the part from c to d in order has all in order. -/
def Rest (a b c d : Nat) (f : Fn) : Prop := a ≤ c ∧ d ≤ b ∧ ∀ g, Sw c d f g → Up c d g → Up a b g
theorem rest_start (a b : Nat) (f : Fn) : Rest a b a b f := ⟨Nat.le_refl _, Nat.le_refl _, fun _ _ h => h⟩
theorem Rest.sw {a b c d : Nat} {f g : Fn} (h : Rest a b c d f) (hs : Sw c d f g) : Rest a b c d g := ⟨h.1, h.2.1, fun k h1 h2 => h.2.2 k (hs.trans h1) h2⟩
theorem rest_equal {a b c d m : Nat} {f : Fn} (h : Rest a b c d f) (hm : c ≤ m) (hc : CutE c d m f) (hl : ∀ k, c ≤ k → k < d → f c ≤ f k) : Rest a b m d f := by
  refine ⟨by have := h.1; omega, h.2.1, fun g h1 h2 => h.2.2 g (h1.mono hm (Nat.le_refl _)) fun i j p q r => ?_⟩
  have ho := h1.out
  by_cases hj : j < m
  · rw [ho i (.inl (by omega)), ho j (.inl hj)]
    have := hc.1 i p (by omega)
    have := hl j (by omega) r
    omega
  · by_cases hi : i < m
    · rw [ho i (.inl hi)]
      have h3 := hc.1 i p hi
      have h4 := h1.all (fun x => f c < x) (fun k k1 k2 => hc.2 k k1 k2) j (by omega) r
      have h5 : f c < g j := h4
      omega
    · exact h2 i j (by omega) q r
theorem low_equal {c d m : Nat} {f : Fn} (hm : c < m) (hc : CutE c d m f) : Low m d f := fun h0 k p q => by
  have h1 := hc.1 (m - 1) (by omega) (by omega)
  have h2 := hc.2 k p q
  omega
theorem rest_left {a b c d m : Nat} {f g : Fn} (h : Rest a b c d f) (hm : c ≤ m) (hd : m < d) (hc : Cut c d m f) (hs : Sw c m f g) (hu : Up c m g) : Rest a b (m + 1) d g := by
  refine ⟨by have := h.1; omega, h.2.1, fun k h1 h2 => h.2.2 k ((hs.mono (Nat.le_refl _) (by omega)).trans (h1.mono (by omega) (Nat.le_refl _))) fun i j p q r => ?_⟩
  have ho := h1.out
  have hg := hs.out
  have hA := hs.all (fun x => x ≤ f m) (fun x x1 x2 => hc.1 x x1 x2)
  have hB : ∀ x, m + 1 ≤ x → x < d → f m ≤ k x := h1.all (fun x => f m ≤ x) (fun x x1 x2 => by rw [hg x (.inr (by omega))]; exact hc.2 x (by omega) x2)
  have hA' : ∀ x, c ≤ x → x < m → k x ≤ f m := fun x x1 x2 => by rw [ho x (.inl (by omega))]; exact hA x x1 x2
  have hM : k m = f m := by rw [ho m (.inl (by omega)), hg m (.inr (Nat.le_refl _))]
  by_cases hj : j < m
  · rw [ho i (.inl (by omega)), ho j (.inl (by omega))]; exact hu i j p q hj
  · by_cases hi : i < m
    · have h3 := hA' i p hi
      by_cases e : j = m
      · subst e; rw [hM]; exact h3
      · have := hB j (by omega) r; omega
    · by_cases e : i = m
      · subst e
        by_cases e2 : j = i
        · subst e2; exact Int.le_refl _
        · rw [hM]; exact hB j (by omega) r
      · exact h2 i j (by omega) q r
theorem rest_right {a b c d m : Nat} {f g : Fn} (h : Rest a b c d f) (hm : c ≤ m) (hd : m < d) (hc : Cut c d m f) (hs : Sw (m + 1) d f g) (hu : Up (m + 1) d g) : Rest a b c m g := by
  refine ⟨h.1, by have := h.2.1; omega, fun k h1 h2 => h.2.2 k ((hs.mono (by omega) (Nat.le_refl _)).trans (h1.mono (Nat.le_refl _) (by omega))) fun i j p q r => ?_⟩
  have ho := h1.out
  have hg := hs.out
  have hB := hs.all (fun x => f m ≤ x) (fun x x1 x2 => hc.2 x (by omega) x2)
  have hA : ∀ x, c ≤ x → x < m → k x ≤ f m := h1.all (fun x => x ≤ f m) (fun x x1 x2 => by rw [hg x (.inl (by omega))]; exact hc.1 x x1 x2)
  have hB' : ∀ x, m + 1 ≤ x → x < d → f m ≤ k x := fun x x1 x2 => by rw [ho x (.inr (by omega))]; exact hB x x1 x2
  have hM : k m = f m := by rw [ho m (.inr (Nat.le_refl _)), hg m (.inl (by omega))]
  by_cases hj : j < m
  · exact h2 i j p q hj
  · by_cases hi : i < m
    · have h3 := hA i p hi
      by_cases e : j = m
      · subst e; rw [hM]; exact h3
      · have := hB' j (by omega) r; omega
    · by_cases e : i = m
      · subst e
        by_cases e2 : j = i
        · subst e2; exact Int.le_refl _
        · rw [hM]; exact hB' j (by omega) r
      · rw [ho i (.inr (by omega)), ho j (.inr (by omega))]
        exact hu i j (by omega) q r
theorem low_left {c d m : Nat} {f : Fn} (h : Low c d f) (hd : m ≤ d) : Low c m f := h.part rfl hd
theorem low_right {c d m : Nat} {f g : Fn} (hc : Cut c d m f) (hs : Sw c m f g) : Low (m + 1) d g := fun h0 k p q => by
  rw [show m + 1 - 1 = m by omega, hs.out m (.inr (Nat.le_refl _)), hs.out k (.inr (by omega))]
  exact hc.2 k (by omega) q
theorem low_still {c d m : Nat} {f g : Fn} (h : Low c d f) (hd : m < d) (hs : Sw (m + 1) d f g) (hm : c ≤ m) : Low c m g := fun h0 k p q => by
  rw [hs.out (c - 1) (.inl (by omega)), hs.out k (.inl (by omega))]
  exact h h0 k p (by omega)
/-! ### Heaps -/
def Hp (s lo n : Nat) (f : Fn) : Prop := ∀ c, 1 ≤ c → c < n → lo ≤ (c - 1) / 2 → f (s + c) ≤ f (s + (c - 1) / 2)
/-- A heap but for what stands at r. -/
def HpX (s lo n r : Nat) (f : Fn) : Prop := (∀ c, 1 ≤ c → c < n → lo ≤ (c - 1) / 2 → (c - 1) / 2 ≠ r → f (s + c) ≤ f (s + (c - 1) / 2)) ∧ (∀ c, 1 ≤ c → c < n → (c - 1) / 2 = r → lo < r → lo ≤ (r - 1) / 2 → f (s + c) ≤ f (s + (r - 1) / 2))
theorem hpx_end {s lo n r : Nat} {f : Fn} (h : HpX s lo n r f) (he : ∀ c, 1 ≤ c → c < n → (c - 1) / 2 = r → f (s + c) ≤ f (s + r)) : Hp s lo n f := fun c h1 h2 h3 => by
  by_cases e : (c - 1) / 2 = r
  · rw [e]; exact he c h1 h2 e
  · exact h.1 c h1 h2 h3 e
theorem hpx_step {s lo n r c : Nat} {f : Fn} (h : HpX s lo n r f) (hr : lo ≤ r) (hc : (c - 1) / 2 = r) (hc1 : 1 ≤ c) (hcn : c < n) (hmax : ∀ c', 1 ≤ c' → c' < n → (c' - 1) / 2 = r → f (s + c') ≤ f (s + c)) (hl : f (s + r) < f (s + c)) : HpX s lo n c (sw f (s + r) (s + c)) := by
  have hrc : r ≠ c := by omega
  refine ⟨fun x h1 h2 h3 h4 => ?_, fun x h1 h2 h3 h4 h5 => ?_⟩
  · unfold sw
    by_cases e : (x - 1) / 2 = r
    · rw [e, if_pos rfl]
      by_cases ex : x = r
      · omega
      · rw [if_neg (by omega)]
        by_cases ec : x = c
        · subst ec; rw [if_pos rfl]; omega
        · rw [if_neg (by omega)]; exact hmax x h1 h2 e
    · rw [if_neg (show s + (x - 1) / 2 ≠ s + r by omega), if_neg (show s + (x - 1) / 2 ≠ s + c by omega)]
      by_cases ex : x = r
      · subst ex
        rw [if_pos rfl]
        exact h.2 c hc1 hcn hc (by omega) h3
      · rw [if_neg (by omega), if_neg (fun e2 => e (by rw [show x = c by omega]; exact hc))]
        exact h.1 x h1 h2 h3 e
  · unfold sw
    rw [hc, if_pos rfl, if_neg (by omega), if_neg (by omega)]
    have := h.1 x h1 h2 (by omega) (by omega)
    rw [h3] at this
    exact this
theorem hp_weak {s lo n r : Nat} {f : Fn} (h : Hp s (r + 1) n f) (hr : lo = r) : HpX s lo n r f := ⟨fun c h1 h2 h3 h4 => h c h1 h2 (by omega), fun c h1 h2 h3 h4 h5 => by omega⟩
theorem hp_none {s lo n : Nat} (f : Fn) (h : n ≤ 2 * lo + 1) : Hp s lo n f := fun c h1 h2 h3 => by omega
theorem hp_max {s n : Nat} {f : Fn} (h : Hp s 0 n f) : ∀ k, k < n → f (s + k) ≤ f s := fun k => by
  induction k using Nat.strongRecOn with
  | _ k ih =>
    intro hk
    by_cases e : k = 0
    · subst e; exact Int.le_refl _
    · have h1 := h k (by omega) hk (by omega)
      have h2 := ih ((k - 1) / 2) (by omega) (by omega)
      omega
/-- The greatest ones stand behind, in order. -/
def Pop (s n i : Nat) (f : Fn) : Prop := Hp s 0 i f ∧ Up (s + i) (s + n) f ∧ ∀ k q, k < i → i ≤ q → q < n → f (s + k) ≤ f (s + q)
theorem pop_start {s n : Nat} {f : Fn} (h : Hp s 0 n f) : Pop s n n f := ⟨h, up_small _ (by omega), fun k q h1 h2 h3 => by omega⟩
theorem pop_sw {s n i : Nat} {f : Fn} (h : Pop s n (i + 1) f) (hi : i < n) : HpX s 0 i 0 (sw f s (s + i)) ∧ Up (s + i) (s + n) (sw f s (s + i)) ∧ ∀ k q, k < i → i ≤ q → q < n → sw f s (s + i) (s + k) ≤ sw f s (s + i) (s + q) := by
  have hm := hp_max h.1
  have hall : ∀ k, k ≤ i → sw f s (s + i) (s + k) ≤ f s := fun k hk => by
    unfold sw
    split
    · exact hm i (by omega)
    · split
      · exact Int.le_refl _
      · exact hm k (by omega)
  have hbeh : ∀ q, i < q → q < n → sw f s (s + i) (s + q) = f (s + q) := fun q h1 h2 => by
    unfold sw
    rw [if_neg (by omega), if_neg (by omega)]
  have hat : sw f s (s + i) (s + i) = f s := by
    unfold sw
    by_cases e : i = 0
    · subst e; simp
    · rw [if_neg (by omega), if_pos rfl]
  refine ⟨⟨fun c h1 h2 h3 h4 => ?_, fun c h1 h2 h3 h4 h5 => by omega⟩, fun p q h1 h2 h3 => ?_, fun k q h1 h2 h3 => ?_⟩
  · unfold sw
    rw [if_neg (by omega), if_neg (by omega), if_neg (by omega), if_neg (by omega)]
    exact h.1 c h1 (by omega) (by omega)
  · obtain ⟨p', rfl⟩ : ∃ p', p = s + p' := ⟨p - s, by omega⟩
    obtain ⟨q', rfl⟩ : ∃ q', q = s + q' := ⟨q - s, by omega⟩
    by_cases e : p' = i
    · subst e
      rw [hat]
      by_cases e2 : q' = p'
      · subst e2; rw [hat]; exact Int.le_refl _
      · rw [hbeh q' (by omega) (by omega)]
        have := h.2.2 0 q' (by omega) (by omega) (by omega)
        simpa using this
    · rw [hbeh p' (by omega) (by omega), hbeh q' (by omega) (by omega)]
      exact h.2.1 _ _ (by omega) h2 h3
  · have h4 := hall k (by omega)
    by_cases e : q = i
    · subst e; rw [hat]; exact h4
    · rw [hbeh q (by omega) h3]
      have := h.2.2 0 q (by omega) (by omega) h3
      simp at this
      omega
theorem pop_sift {s n i : Nat} {f g : Fn} (hu : Up (s + i) (s + n) f) (ha : ∀ k q, k < i → i ≤ q → q < n → f (s + k) ≤ f (s + q)) (hs : Sw s (s + i) f g) (hp : Hp s 0 i g) : Pop s n i g := by
  refine ⟨hp, hu.eq (fun k h1 h2 => hs.out k (.inr h1)), fun k q h1 h2 h3 => ?_⟩
  rw [hs.out (s + q) (.inr (by omega))]
  exact hs.all (fun x => x ≤ f (s + q)) (fun x x1 x2 => by have := ha (x - s) q (by omega) h2 h3; rwa [show s + (x - s) = x by omega] at this) (s + k) (by omega) (by omega)
theorem pop_end {s n : Nat} {f : Fn} (h : Pop s n 0 f) : Up s (s + n) f := h.2.1
/-! ### Behind it all: a permutation -/
theorem sw_perm (g : Fn) (n i j : Nat) (hi : i < n) (hj : j < n) : ((List.range n).map (sw g i j)).Perm ((List.range n).map g) := by
  let t : Nat → Nat := fun k => if k = i then j else if k = j then i else k
  have ht : ∀ k, t (t k) = k := fun k => by
    show (if (if k = i then j else if k = j then i else k) = i then j else if (if k = i then j else if k = j then i else k) = j then i else (if k = i then j else if k = j then i else k)) = k
    by_cases h1 : k = i
    · subst h1; by_cases h2 : j = k <;> simp [h2]
    · by_cases h2 : k = j
      · subst h2; simp [h1]
      · simp [h1, h2]
  have e : (List.range n).map (sw g i j) = ((List.range n).map t).map g := by
    rw [List.map_map]
    apply List.map_congr_left
    intro k _
    show (if k = i then g j else if k = j then g i else g k) = g (if k = i then j else if k = j then i else k)
    split
    · rfl
    · split <;> rfl
  rw [e]
  apply List.Perm.map
  have nd : (List.range n).Nodup := List.nodup_range
  have nd2 : ((List.range n).map t).Nodup := by
    unfold List.Nodup at *
    rw [List.pairwise_map]
    exact nd.imp (fun h e => h (by have := congrArg t e; rwa [ht, ht] at this))
  have htn : ∀ k, k < n → t k < n := fun k hk => by
    show (if k = i then j else if k = j then i else k) < n
    split
    · exact hj
    · split
      · exact hi
      · exact hk
  refine (List.perm_ext_iff_of_nodup nd2 nd).2 (fun x => ?_)
  simp only [List.mem_map, List.mem_range]
  exact ⟨fun ⟨y, hy, e⟩ => e ▸ htn y hy, fun hx => ⟨t x, htn x hx, ht x⟩⟩
theorem Sw.perm {n : Nat} {f g : Fn} (h : Sw 0 n f g) : ((List.range n).map g).Perm ((List.range n).map f) := by
  induction h with
  | refl => exact List.Perm.refl _
  | step _ p q r s ih => exact (sw_perm _ _ _ _ q s).trans ih
end Go.Proofs.YtafenkepigmcaaaGreatDoor.So
/- The sort of numbers: a row of the call's own; the order of two; insertion, walked. -/
namespace Go.Proofs.YtafenkepigmcaaaGreatDoor.So
open Go Go.RowKit
/-- Of what was there the blocks of G alone have turned. -/
structure Turned (G : Nat → Prop) (w w' : World) : Prop where
  os : w'.os = w.os
  tape : w'.tape = w.tape
  output : w'.output = w.output
  size : w.heap.size ≤ w'.heap.size
  block : ∀ k, k < w.heap.size → ¬ G k → w'.heap[k]? = w.heap[k]?
theorem Turned.refl (G : Nat → Prop) (w : World) : Turned G w w := ⟨rfl, rfl, rfl, Nat.le_refl _, fun _ _ _ => rfl⟩
theorem Turned.of_grown {w w' : World} {r : Option Nat} (h : w.grownBy w' r) {G : Nat → Prop} (hr : ∀ k, r = some k → G k) : Turned G w w' :=
  ⟨h.os, h.tape, h.output, h.size, fun k hk hG => h.block k hk (fun e => hG (hr k e.symm))⟩
theorem Turned.trans {G H : Nat → Prop} {a b c : World} (h : Turned G a b) (k : Turned H b c) (hH : ∀ i, H i → G i ∨ a.heap.size ≤ i) : Turned G a c :=
  ⟨k.os.trans h.os, k.tape.trans h.tape, k.output.trans h.output, Nat.le_trans h.size k.size, fun i hi hG => (k.block i (Nat.lt_of_lt_of_le hi h.size) (fun e => (hH i e).elim hG (fun h' => by omega))).trans (h.block i hi hG)⟩
theorem Turned.then {G : Nat → Prop} {a b c : World} (h : Turned G a b) (k : Turned G b c) : Turned G a c := h.trans k (fun _ => .inl)
theorem Turned.mono {G H : Nat → Prop} {a b : World} (h : Turned G a b) (hH : ∀ i, G i → H i) : Turned H a b := ⟨h.os, h.tape, h.output, h.size, fun i hi hG => h.block i hi (fun e => hG (hH i e))⟩
theorem Turned.below {G : Nat → Prop} {w w' : World} (h : Turned G w w') {B : Nat} (hB : B ≤ w.heap.size) (hG : ∀ k, G k → B ≤ k) : Below B w w' :=
  ⟨h.os, h.tape, h.output, h.size, fun k hk => h.block k (by omega) (fun e => by have := hG k e; omega)⟩
theorem below_turned {w w' : World} {G : Nat → Prop} {B : Nat} (h : Below B w w') (hG : ∀ k, k < w.heap.size → B ≤ k → G k) : Turned G w w' :=
  ⟨h.os, h.tape, h.output, h.size, fun k hk hn => h.block k (Nat.lt_of_not_le fun e => hn (hG k hk e))⟩
theorem below_any {w w' : World} {G : Nat → Prop} (h : Below w.heap.size w w') : Turned G w w' := below_turned h (fun k h1 h2 => by omega)
theorem turned_drewN (G : Nat → Prop) (w : World) (n : Nat) : Turned G w (w.drewN n) := ⟨rfl, rfl, rfl, Nat.le_refl _, fun _ _ _ => rfl⟩
theorem turned_drew (G : Nat → Prop) (w : World) : Turned G w w.drew := ⟨rfl, rfl, rfl, Nat.le_refl _, fun _ _ _ => rfl⟩
theorem grown_set (w : World) (b i : Nat) (v : Value) : w.grownBy (w.setCell ⟨b, i, none⟩ v) (some b) :=
  ⟨rfl, rfl, rfl, by simp, fun k _ hk => by
    show (w.heap.modify b _)[k]? = _
    rw [Array.getElem?_modify, if_neg (fun e => hk (by rw [e]))]⟩
theorem turned_set (w : World) (b i : Nat) (v : Value) : Turned (fun k => k = b) w (w.setCell ⟨b, i, none⟩ v) := .of_grown (grown_set w b i v) (fun k e => by injection e with e; exact e.symm)
def cs (n : Nat) (f : Fn) : List Value := (List.range n).map fun k => .int .u32 (f k)
theorem cs_len (n : Nat) (f : Fn) : (cs n f).length = n := by simp [cs]
theorem cs_at {n i : Nat} (f : Fn) (h : i < n) : (cs n f)[i]? = some (.int .u32 (f i)) := by simp [cs, h]
theorem cs_swap {n i j : Nat} (f : Fn) (hi : i < n) (hj : j < n) : ((cs n f).set i (.int .u32 (f j))).set j (.int .u32 (f i)) = cs n (sw f i j) := by
  apply List.ext_getElem?
  intro k
  by_cases hk : k < n
  · rw [cs_at _ hk, List.getElem?_set, List.getElem?_set, cs_at _ hk]
    simp only [List.length_set, cs_len, hi, hj, if_true]
    unfold sw
    by_cases h1 : j = k
    · subst h1
      rw [if_pos rfl]
      by_cases h2 : j = i
      · subst h2; rw [if_pos rfl]
      · rw [if_neg h2, if_pos rfl]
    · rw [if_neg h1]
      by_cases h2 : i = k
      · subst h2; rw [if_pos rfl, if_pos rfl]
      · rw [if_neg h2, if_neg (fun e => h2 e.symm), if_neg (fun e => h1 e.symm)]
  · rw [List.getElem?_eq_none (by simp [cs_len]; omega), List.getElem?_eq_none (by rw [cs_len]; omega)]
/-- A row of the call's own in block g, that holds f's first n numbers. -/
def Own (w : World) (B g cap n : Nat) (f : Fn) : Prop := w.ownsRow B 23 1 (.slice (some ⟨g, 0, none⟩) n cap) n (cs n f)
theorem Own.block {w : World} {B g cap n : Nat} {f : Fn} (h : Own w B g cap n f) : ∃ cur, w.heap[g]? = some (.cells cur 23 (0, 0)) ∧ B ≤ g ∧ n ≤ cap ∧ cap ≤ maxLen ∧ ∀ i, i < n → cur[i]? = some (.int .u32 (f i)) := by
  rcases h.2 with ⟨h', _⟩ | ⟨g', cap', cur, h', hb, hg, hnc, hcm, hcs, htake⟩
  · simp at h'
  · simp only [Value.slice.injEq, Option.some.injEq, Addr.mk.injEq, and_true, true_and] at h'
    obtain ⟨rfl, rfl⟩ := h'
    refine ⟨cur, hg, hb, hnc, hcm, fun i hi => ?_⟩
    rw [← cs_at f hi, ← htake, List.getElem?_take, if_pos (by omega)]
    simp
theorem Own.cell {w : World} {B g cap n i : Nat} {f : Fn} (h : Own w B g cap n f) (hi : i < n) : w.cell? ⟨g, i, none⟩ = some (.int .u32 (f i)) := by
  obtain ⟨cur, h1, _, _, _, h2⟩ := h.block
  simp [World.cell?, h1, h2 i hi]
theorem Own.free {w : World} {B g cap n : Nat} {f : Fn} (h : Own w B g cap n f) (i : Nat) : w.frozen? ⟨g, i, none⟩ = false := by
  obtain ⟨cur, h1, _⟩ := h.block
  simp [World.frozen?, h1]
theorem Own.lt {w : World} {B g cap n : Nat} {f : Fn} (h : Own w B g cap n f) : g < w.heap.size := by
  obtain ⟨cur, h1, _⟩ := h.block
  exact (Array.getElem?_eq_some_iff.1 h1).1
theorem Own.swap {w : World} {B g cap n i j : Nat} {f : Fn} (h : Own w B g cap n f) (hi : i < n) (hj : j < n) : Own ((w.setCell ⟨g, i, none⟩ (.int .u32 (f j))).setCell ⟨g, j, none⟩ (.int .u32 (f i))) B g cap n (sw f i j) := by
  have h1 := (h.stored i (.int .u32 (f j))).1
  have h2 := (h1.stored j (.int .u32 (f i))).1
  unfold Own
  rw [← cs_swap f hi hj]
  exact h2
theorem own_on {W W' : World} {B e size k : Nat} {v : Value} {xs : List Value} (h : W.ownsRow B e size v k xs) (hs : ∀ g, v.ownBlock = some g → W'.heap[g]? = W.heap[g]?) : W'.ownsRow B e size v k xs := by
  refine ⟨h.1, ?_⟩
  rcases h.2 with h0 | ⟨g, cap, cur, e, e1, e2, e3⟩
  · exact .inl h0
  · exact .inr ⟨g, cap, cur, e, e1, (hs g (by rw [e]; rfl)).trans e2, e3⟩
theorem Own.on {w w' : World} {B g cap n : Nat} {f : Fn} {G : Nat → Prop} (h : Own w B g cap n f) (ht : Turned G w w') (hG : ¬ G g) : Own w' B g cap n f :=
  own_on h (fun k e => by
    have : g = k := by simpa [Value.ownBlock] using e
    subst this
    exact ht.block _ h.lt hG)
/-- The row now holds f, and nothing else has turned. -/
def Has (w0 : World) (B g cap n : Nat) (f : Fn) (w : World) : Prop := Own w B g cap n f ∧ Turned (fun k => k = g) w0 w
theorem Has.refl {w : World} {B g cap n : Nat} {f : Fn} (h : Own w B g cap n f) : Has w B g cap n f w := ⟨h, .refl _ _⟩
theorem Has.trans {a b c : World} {B g cap n : Nat} {f f' : Fn} (h : Has a B g cap n f b) (k : Has b B g cap n f' c) : Has a B g cap n f' c := ⟨k.1, h.2.then k.2⟩
theorem Has.drewN {a b : World} {B g cap n : Nat} {f : Fn} (h : Has a B g cap n f b) (q : Nat) : Has a B g cap n f (b.drewN q) := ⟨own_on h.1 (fun _ _ => rfl), h.2.then (turned_drewN _ _ _)⟩
theorem Has.drew {a b : World} {B g cap n : Nat} {f : Fn} (h : Has a B g cap n f b) : Has a B g cap n f b.drew := ⟨own_on h.1 (fun _ _ => rfl), h.2.then (turned_drew _ _)⟩
theorem Has.swap {a b : World} {B g cap n i j : Nat} {f : Fn} (h : Has a B g cap n f b) (hi : i < n) (hj : j < n) : Has a B g cap n (sw f i j) ((b.setCell ⟨g, i, none⟩ (.int .u32 (f j))).setCell ⟨g, j, none⟩ (.int .u32 (f i))) :=
  ⟨h.1.swap hi hj, (h.2.then (turned_set _ _ _ _)).then (turned_set _ _ _ _)⟩
theorem nan81 (x : Int) (w : World) : Calls Tryz.prog 166 #[.int .u32 x] w fun e w' => e = .returned (.bool false) ∧ w' = w := by
  go_enter Tryz.func166, Tryz.ntmps166
  go_wp2_with fail
  go_ret
  exact ⟨by simp, rfl⟩
theorem less_any (x y : Int) (w : World) : Calls Tryz.prog 137 #[.int .u32 x, .int .u32 y] w fun e w' => e = .returned (.bool (decide (x < y))) ∧ w' = w := by
  go_enter Tryz.func137, Tryz.ntmps137
  go_wp2_with (first | (go_at_call 166; refine (nan81 _ _).mono ?_; rintro e _ ⟨rfl, rfl⟩))
  go_ret
  exact ⟨by simp, rfl⟩
end Go.Proofs.YtafenkepigmcaaaGreatDoor.So
/- The sort of numbers: insertion, walked. -/
namespace Go.Proofs.YtafenkepigmcaaaGreatDoor.So
open Go Go.RowKit
/-- What a part of the sort leaves: by swaps between a and b, in order there. -/
def Done (w0 : World) (B g cap n a b : Nat) (f : Fn) (w : World) : Prop := ∃ f', Sw a b f f' ∧ Up a b f' ∧ Has w0 B g cap n f' w
theorem rd2 {w0 wr : World} {B g cap n i : Nat} {f : Fn} (h : Has w0 B g cap n f wr) (hi : i < n) : wr.cell? ⟨g, i, none⟩ = some (.int .u32 (f i)) := h.1.cell hi
theorem Has.swp {a b : World} {B g cap n i j : Nat} {f : Fn} {x y : Int} (h : Has a B g cap n f b) (q : Nat) (hi : i < n) (hj : j < n) (hx : x = f i) (hy : y = f j) :
    Has a B g cap n (sw f i j) (((b.drewN q).setCell ⟨g, i, none⟩ (.int .u32 y)).setCell ⟨g, j, none⟩ (.int .u32 x)) := by
  subst hx; subst hy; exact (h.drewN q).swap hi hj
set_option maxRecDepth 100000 in
set_option maxHeartbeats 1000000 in
theorem ins_any (B g cap n a b : Nat) (f : Fn) (w : World) (h : Own w B g cap n f) (hn : n ≤ 4611686018427387903) (hb : b ≤ n) (ha : a ≤ n) :
    Calls Tryz.prog 131 #[.slice (some ⟨g, 0, none⟩) n cap, .int .i64 a, .int .i64 b] w fun e w' => e = .returned (.tuple #[]) ∧ Done w B g cap n a b f w' := by
  have H := Lib.hid (Has.refl h)
  clear h
  go_enter Tryz.func131, Tryz.ntmps131
  go_wp2
  go_loopw [6] (fun u wr => ∃ i : Nat, u = .int .i64 i ∧ a + 1 ≤ i ∧ (i ≤ b ∨ i = a + 1) ∧ Hid (∃ f', Sw a b f f' ∧ Up a i f' ∧ Has w B g cap n f' wr)) (fun u _ => n + 1 - (intOf u).toNat)
  case atStart => exact ⟨a + 1, by go_num, by omega, .inr rfl, Lib.hid ⟨f, .refl f, up_small f (by omega), H.out⟩⟩
  case round =>
    obtain ⟨i, rfl, hi1, hi2, HI⟩ := hrel
    clear H
    by_cases hib : i < b
    · go_wp2
      obtain ⟨f1, hs1, hu1, hh1⟩ := HI.out
      have H1 := Lib.hid (show ∃ f', Sw a b f f' ∧ Ins a i i f' ∧ Has w B g cap n f' wr from ⟨f1, hs1, ins_start hu1, hh1⟩)
      clear HI hs1 hu1 hh1
      go_loopw [7] (fun u wr => ∃ j : Nat, u = .int .i64 j ∧ a ≤ j ∧ j ≤ i ∧ Hid (∃ f', Sw a b f f' ∧ Ins a j i f' ∧ Has w B g cap n f' wr)) (fun u _ => (intOf u).toNat)
      case atStart => exact ⟨i, rfl, by omega, Nat.le_refl _, H1⟩
      case round =>
        obtain ⟨j, rfl, hj1, hj2, HJ⟩ := hrel
        clear H1
        obtain ⟨f2, hs2, hi2, hh2⟩ := HJ.out
        by_cases haj : a < j
        · obtain ⟨k, rfl⟩ : ∃ k, j = k + 1 := ⟨j - 1, by omega⟩
          have c1 := rd2 hh2 (i := k + 1) (by omega)
          have c0 := rd2 hh2 (i := k) (by omega)
          have e1 := hh2.1.free (k + 1)
          have e0 := hh2.1.free k
          have HS := Lib.hid (And.intro hs2 (And.intro hi2 hh2))
          obtain ⟨x, hx⟩ : ∃ x, x = f2 (k + 1) := ⟨_, rfl⟩
          obtain ⟨y, hy⟩ : ∃ y, y = f2 k := ⟨_, rfl⟩
          rw [← hx] at c1
          rw [← hy] at c0
          have HX := Lib.hid (And.intro hx hy)
          clear hs2 hi2 hh2 hx hy HJ
          have kn : (k : Int) + 1 < (n : Int) := by omega
          have ka : (a : Int) < (k : Int) + 1 := by omega
          go_wp2
          go_quiet (first | (go_at_call 137; refine Calls.quiet_of_same (less_any _ _ _)))
          go_wp2
          · have hl : x < y := by assumption
            go_region
            all_goals go_wp2
            go_roundw
            case rel =>
              refine ⟨k, by go_num, by omega, by omega, Lib.hid ⟨sw f2 (k + 1) k, HS.out.1.trans (ins_swap f2 (by omega) (by omega) hib), ins_step HS.out.2.1 (by omega) (by omega) (by rw [← HX.out.1, ← HX.out.2]; exact hl), ?_⟩⟩
              exact HS.out.2.2.swp (nq + 1) (by omega) (by omega) HX.out.1 HX.out.2
            case measure => simp [intOf] <;> omega
          · have hl : y ≤ x := by assumption
            go_roundw
            case rel => exact ⟨i + 1, by go_num, by omega, by omega, Lib.hid ⟨f2, HS.out.1, ins_end HS.out.2.1 (by omega) (by omega) (.inr (by have h1 := HX.out.1; have h2 := HX.out.2; simp only [Nat.add_sub_cancel]; omega)), HS.out.2.2.drewN _⟩⟩
            case measure => simp [intOf] <;> omega
        · have ka : decide ((a : Int) < (j : Int)) = false := by simp; omega
          obtain rfl : j = a := by omega
          have HS := Lib.hid (And.intro hs2 (And.intro hi2 hh2))
          clear hs2 hi2 hh2 HJ
          go_wp2
          go_quiet (fail)
          go_wp2
          go_roundw
          case rel => exact ⟨i + 1, by go_num, by omega, by omega, Lib.hid ⟨f2, HS.out.1, ins_end HS.out.2.1 (by omega) (by omega) (.inl rfl), HS.out.2.2.drewN _⟩⟩
          case measure => simp [intOf] <;> omega
    · obtain ⟨f1, hs1, hu1, hh1⟩ := HI.out
      have HE := Lib.hid (show Done w B g cap n a b f wr from ⟨f1, hs1, by rcases hi2 with h | h; (exact hu1.mono (Nat.le_refl _) (by omega)); (exact up_small _ (by omega)), hh1⟩)
      clear hs1 hu1 hh1 HI
      go_wp2
      go_end0
      exact ⟨rfl, HE.out⟩
end Go.Proofs.YtafenkepigmcaaaGreatDoor.So
/- The sort of numbers: a heap is mended, walked. -/
namespace Go.Proofs.YtafenkepigmcaaaGreatDoor.So
open Go Go.RowKit
theorem wr64 {x : Int} (h1 : -9223372036854775808 ≤ x) (h2 : x ≤ 9223372036854775807) : IntKind.i64.wrap x = x := by simp [IntKind.wrap, IntKind.bits, IntKind.signed]; omega
theorem less_yes {x y : Int} (h : x < y) (w : World) : Calls Tryz.prog 137 #[.int .u32 x, .int .u32 y] w fun e w' => e = .returned (.bool true) ∧ w' = w := by
  have := less_any x y w; rwa [decide_eq_true h] at this
theorem less_no {x y : Int} (h : ¬ x < y) (w : World) : Calls Tryz.prog 137 #[.int .u32 x, .int .u32 y] w fun e w' => e = .returned (.bool false) ∧ w' = w := by
  have := less_any x y w; rwa [decide_eq_false h] at this
def Sift (w0 : World) (B g cap n s lo hi : Nat) (f : Fn) (w : World) : Prop := ∃ f', Sw s (s + hi) f f' ∧ Hp s lo hi f' ∧ Has w0 B g cap n f' w
set_option maxRecDepth 100000 in
set_option maxHeartbeats 2000000 in
theorem sift_any (B g cap n s lo hi : Nat) (f : Fn) (w : World) (h : Own w B g cap n f) (hn : n ≤ 1152921504606846975) (hs : s + hi ≤ n) (hlo : lo ≤ n) (hx : HpX s lo hi lo f) :
    Calls Tryz.prog 161 #[.slice (some ⟨g, 0, none⟩) n cap, .int .i64 lo, .int .i64 hi, .int .i64 s] w fun e w' => e = .returned (.tuple #[]) ∧ Sift w B g cap n s lo hi f w' := by
  have H := Lib.hid (show ∃ f', Sw s (s + hi) f f' ∧ HpX s lo hi lo f' ∧ Has w B g cap n f' w from ⟨f, .refl f, hx, .refl h⟩)
  clear h hx
  go_enter Tryz.func161, Tryz.ntmps161
  go_wp2
  go_loopw [8] (fun u wr => ∃ r : Nat, u = .int .i64 r ∧ lo ≤ r ∧ (r = lo ∨ r < hi) ∧ Hid (∃ f', Sw s (s + hi) f f' ∧ HpX s lo hi r f' ∧ Has w B g cap n f' wr)) (fun u _ => n - (intOf u).toNat)
  case atStart => exact ⟨lo, rfl, Nat.le_refl _, .inl rfl, H⟩
  case round =>
    obtain ⟨r, rfl, hr1, hr2, HI⟩ := hrel
    clear H
    obtain ⟨f1, hs1, hx1, hh1⟩ := HI.out
    clear HI
    obtain ⟨c, hc⟩ : ∃ c : Nat, c = 2 * r + 1 := ⟨_, rfl⟩
    by_cases hch : hi ≤ c
    · have HE := Lib.hid (show Sift w B g cap n s lo hi f wr from ⟨f1, hs1, hpx_end hx1 (fun c' h1 h2 h3 => by omega), hh1⟩)
      have k1 : (hi : Int) ≤ 2 * (r : Int) + 1 := by omega
      clear hs1 hx1 hh1
      go_wp2
      go_end0
      exact ⟨rfl, HE.out⟩
    · have k0 : 2 * (r : Int) + 1 = (c : Int) := by omega
      have k1 : ¬ ((hi : Int) ≤ (c : Int)) := by omega
      have kc : (c : Int) ≤ 9223372036854775806 := by omega
      by_cases hsib : hi ≤ c + 1
      · have k2 : decide ((c : Int) + 1 < (hi : Int)) = false := by simp; omega
        have HC := Lib.hid (And.intro hc hsib)
        clear hc hsib
        go_wp2
        go_quiet (fail)
        have hc := HC.out.1
        have hsib := HC.out.2
        replace hh1 := hh1.drewN nq
        generalize wr.drewN nq = wx at *
        have hcm : ∀ c', 1 ≤ c' → c' < hi → (c' - 1) / 2 = r → f1 (s + c') ≤ f1 (s + c) := fun c' h1 h2 h3 => by
          obtain rfl : c' = c := by omega
          exact Int.le_refl _
        have hcr : (c - 1) / 2 = r := by omega
        have hcn : c < hi := by omega
        have hcp : 1 ≤ c := by omega
        clear hc k2 hsib HC
        obtain ⟨q, hq⟩ : ∃ q, q = s + r := ⟨_, rfl⟩
        obtain ⟨p, hp⟩ : ∃ p, p = s + c := ⟨_, rfl⟩
        have cR := rd2 hh1 (i := q) (by omega)
        have cC := rd2 hh1 (i := p) (by omega)
        have eR := hh1.1.free q
        have eC := hh1.1.free p
        obtain ⟨x, hx⟩ : ∃ x, x = f1 q := ⟨_, rfl⟩
        obtain ⟨y, hy⟩ : ∃ y, y = f1 p := ⟨_, rfl⟩
        rw [← hx] at cR
        rw [← hy] at cC
        have HS := Lib.hid (And.intro hs1 (And.intro hx1 hh1))
        have HX := Lib.hid (And.intro hx hy)
        have k3 : (q : Int) < (n : Int) := by omega
        have k4 : (p : Int) < (n : Int) := by omega
        have k5 : IntKind.i64.wrap (q : Int) = (q : Int) := wr64 (by omega) (by omega)
        have k6 : IntKind.i64.wrap (p : Int) = (p : Int) := wr64 (by omega) (by omega)
        have k7 : (s : Int) + (r : Int) = (q : Int) := by omega
        have k8 : (s : Int) + (c : Int) = (p : Int) := by omega
        have k9 : (r : Int) + 1 ≤ (c : Int) := by omega
        have k10 : (c : Int) ≤ 9223372036854775807 := by omega
        have HQ := Lib.hid (And.intro hq (And.intro hp (And.intro hcm (And.intro hcr (And.intro hcn hcp)))))
        clear hs1 hx1 hh1 hx hy hq hp hcm hcr hcn hcp
        by_cases hl : x < y
        · go_wp2
          go_quiet (first | (go_at_call 137; refine Calls.quiet_of_same (less_yes hl _)))
          go_wp2
          go_region
          all_goals go_wp2
          go_roundw
          case rel =>
            refine ⟨c, rfl, by have := HQ.out.2.2.2.1; omega, .inr HQ.out.2.2.2.2.1, Lib.hid ⟨sw f1 q p, HS.out.1.trans (.one f1 (by have := HQ.out.1; omega) (by have := HQ.out.1; have := HQ.out.2.2; omega) (by have := HQ.out.2.1; omega) (by have := HQ.out.2.1; have := HQ.out.2.2; omega)), ?_, HS.out.2.2.swp _ (by omega) (by omega) HX.out.1 HX.out.2⟩⟩
            rw [HQ.out.1, HQ.out.2.1]
            exact hpx_step HS.out.2.1 hr1 HQ.out.2.2.2.1 HQ.out.2.2.2.2.2 HQ.out.2.2.2.2.1 HQ.out.2.2.1 (by rw [← HQ.out.2.1, ← HQ.out.1, ← HX.out.1, ← HX.out.2]; exact hl)
          case measure => have := HQ.out.2.2.2.2.1; simp [intOf] <;> omega
        · have HE := Lib.hid (show ∀ q', Sift w B g cap n s lo hi f (wx.drewN q') from fun q' => ⟨f1, HS.out.1, hpx_end HS.out.2.1 (fun c' h1 h2 h3 => Int.le_trans (HQ.out.2.2.1 c' h1 h2 h3) (by rw [← HQ.out.2.1, ← HQ.out.1, ← HX.out.1, ← HX.out.2]; omega)), HS.out.2.2.drewN _⟩)
          have hd : decide (x < y) = false := decide_eq_false hl
          clear hl
          go_wp2
          go_quiet (first | (go_at_call 137; refine Calls.quiet_of_same (less_any _ _ _)))
          go_wp2
          exact bodyPost_ret (v := .tuple #[]) (results_none rfl _ _ _) rfl ⟨rfl, HE.out _⟩
      · obtain ⟨d, hd⟩ : ∃ d, d = c + 1 := ⟨_, rfl⟩
        obtain ⟨p1, hp1⟩ : ∃ p1, p1 = s + c := ⟨_, rfl⟩
        obtain ⟨p2, hp2⟩ : ∃ p2, p2 = s + d := ⟨_, rfl⟩
        have c1 := rd2 hh1 (i := p1) (by omega)
        have c2 := rd2 hh1 (i := p2) (by omega)
        obtain ⟨x1, hx1'⟩ : ∃ x1, x1 = f1 p1 := ⟨_, rfl⟩
        obtain ⟨x2, hx2'⟩ : ∃ x2, x2 = f1 p2 := ⟨_, rfl⟩
        rw [← hx1'] at c1
        rw [← hx2'] at c2
        have k2 : (d : Int) < (hi : Int) := by omega
        have k3 : (p1 : Int) < (n : Int) := by omega
        have k4 : (p2 : Int) < (n : Int) := by omega
        have k5 : IntKind.i64.wrap (p1 : Int) = (p1 : Int) := wr64 (by omega) (by omega)
        have k6 : IntKind.i64.wrap (p2 : Int) = (p2 : Int) := wr64 (by omega) (by omega)
        have k7 : (s : Int) + (c : Int) = (p1 : Int) := by omega
        have k8 : (p1 : Int) + 1 = (p2 : Int) := by omega
        have k9 : (c : Int) + 1 = (d : Int) := by omega
        have HQ := Lib.hid (And.intro hp1 (And.intro hp2 (And.intro hd hc)))
        have HX := Lib.hid (And.intro hx1' hx2')
        have HS := Lib.hid (And.intro hs1 (And.intro hx1 hh1))
        clear hs1 hx1 hh1 hp1 hp2 hd hc hx1' hx2'
        go_wp2
        go_quiet (first | (go_at_call 137; refine Calls.quiet_of_same (less_any _ _ _)))
        have hh1 := HS.out.2.2.drewN nq
        have hs1 := HS.out.1
        have hx1 := HS.out.2.1
        clear HS c1 c2
        generalize wr.drewN nq = wx at *
        go_wp2
        · have hl : x1 < x2 := by assumption
          have hcm : ∀ c', 1 ≤ c' → c' < hi → (c' - 1) / 2 = r → f1 (s + c') ≤ f1 (s + d) := fun c' h1 h2 h3 => by
            have e1 := HX.out.1
            have e2 := HX.out.2
            rw [HQ.out.1] at e1
            rw [HQ.out.2.1] at e2
            have hd := HQ.out.2.2.1
            have hc := HQ.out.2.2.2
            by_cases e : c' = c
            · subst e; omega
            · obtain rfl : c' = d := by omega
              exact Int.le_refl _
          have hcr : (d - 1) / 2 = r := by have hd := HQ.out.2.2.1; have hc := HQ.out.2.2.2; omega
          have hcn : d < hi := by omega
          have hcp : 1 ≤ d := by omega
          have hc1 : 2 * r + 2 = d := by have hd := HQ.out.2.2.1; have hc := HQ.out.2.2.2; omega
          clear HQ HX hl k3 k4 k5 k6 k7 k8 k0 k1 k9 hch hsib kc
          clear hc1
          generalize d = c at *
          obtain ⟨q, hq⟩ : ∃ q, q = s + r := ⟨_, rfl⟩
          obtain ⟨p, hp⟩ : ∃ p, p = s + c := ⟨_, rfl⟩
          have cR := rd2 hh1 (i := q) (by omega)
          have cC := rd2 hh1 (i := p) (by omega)
          have eR := hh1.1.free q
          have eC := hh1.1.free p
          obtain ⟨x, hx⟩ : ∃ x, x = f1 q := ⟨_, rfl⟩
          obtain ⟨y, hy⟩ : ∃ y, y = f1 p := ⟨_, rfl⟩
          rw [← hx] at cR
          rw [← hy] at cC
          have HS := Lib.hid (And.intro hs1 (And.intro hx1 hh1))
          have HX := Lib.hid (And.intro hx hy)
          have k3 : (q : Int) < (n : Int) := by omega
          have k4 : (p : Int) < (n : Int) := by omega
          have k5 : IntKind.i64.wrap (q : Int) = (q : Int) := wr64 (by omega) (by omega)
          have k6 : IntKind.i64.wrap (p : Int) = (p : Int) := wr64 (by omega) (by omega)
          have k7 : (s : Int) + (r : Int) = (q : Int) := by omega
          have k8 : (s : Int) + (c : Int) = (p : Int) := by omega
          have k9 : (r : Int) + 1 ≤ (c : Int) := by omega
          have k10 : (c : Int) ≤ 9223372036854775807 := by omega
          have HQ := Lib.hid (And.intro hq (And.intro hp (And.intro hcm (And.intro hcr (And.intro hcn hcp)))))
          clear hs1 hx1 hh1 hx hy hq hp hcm hcr hcn hcp
          by_cases hl : x < y
          · go_wp2
            go_quiet (first | (go_at_call 137; refine Calls.quiet_of_same (less_yes hl _)))
            go_wp2
            go_region
            all_goals go_wp2
            go_roundw
            case rel =>
              refine ⟨c, rfl, by have := HQ.out.2.2.2.1; omega, .inr HQ.out.2.2.2.2.1, Lib.hid ⟨sw f1 q p, HS.out.1.trans (.one f1 (by have := HQ.out.1; omega) (by have := HQ.out.1; have := HQ.out.2.2; omega) (by have := HQ.out.2.1; omega) (by have := HQ.out.2.1; have := HQ.out.2.2; omega)), ?_, HS.out.2.2.swp _ (by omega) (by omega) HX.out.1 HX.out.2⟩⟩
              rw [HQ.out.1, HQ.out.2.1]
              exact hpx_step HS.out.2.1 hr1 HQ.out.2.2.2.1 HQ.out.2.2.2.2.2 HQ.out.2.2.2.2.1 HQ.out.2.2.1 (by rw [← HQ.out.2.1, ← HQ.out.1, ← HX.out.1, ← HX.out.2]; exact hl)
            case measure => have := HQ.out.2.2.2.2.1; simp [intOf] <;> omega
          · have HE := Lib.hid (show ∀ q', Sift w B g cap n s lo hi f (wx.drewN q') from fun q' => ⟨f1, HS.out.1, hpx_end HS.out.2.1 (fun c' h1 h2 h3 => Int.le_trans (HQ.out.2.2.1 c' h1 h2 h3) (by rw [← HQ.out.2.1, ← HQ.out.1, ← HX.out.1, ← HX.out.2]; omega)), HS.out.2.2.drewN _⟩)
            have hd : decide (x < y) = false := decide_eq_false hl
            clear hl
            go_wp2
            go_quiet (first | (go_at_call 137; refine Calls.quiet_of_same (less_any _ _ _)))
            go_wp2
            exact bodyPost_ret (v := .tuple #[]) (results_none rfl _ _ _) rfl ⟨rfl, HE.out _⟩
        · have hl : x2 ≤ x1 := by assumption
          have hcm : ∀ c', 1 ≤ c' → c' < hi → (c' - 1) / 2 = r → f1 (s + c') ≤ f1 (s + c) := fun c' h1 h2 h3 => by
            have e1 := HX.out.1
            have e2 := HX.out.2
            rw [HQ.out.1] at e1
            rw [HQ.out.2.1] at e2
            have hd := HQ.out.2.2.1
            have hc := HQ.out.2.2.2
            by_cases e : c' = d
            · subst e; omega
            · obtain rfl : c' = c := by omega
              exact Int.le_refl _
          have hcr : (c - 1) / 2 = r := by have hd := HQ.out.2.2.1; have hc := HQ.out.2.2.2; omega
          have hcn : c < hi := by omega
          have hcp : 1 ≤ c := by omega
          clear HQ HX hl k3 k4 k5 k6 k7 k8 k0 k1 k9 k2 hch hsib kc
          obtain ⟨q, hq⟩ : ∃ q, q = s + r := ⟨_, rfl⟩
          obtain ⟨p, hp⟩ : ∃ p, p = s + c := ⟨_, rfl⟩
          have cR := rd2 hh1 (i := q) (by omega)
          have cC := rd2 hh1 (i := p) (by omega)
          have eR := hh1.1.free q
          have eC := hh1.1.free p
          obtain ⟨x, hx⟩ : ∃ x, x = f1 q := ⟨_, rfl⟩
          obtain ⟨y, hy⟩ : ∃ y, y = f1 p := ⟨_, rfl⟩
          rw [← hx] at cR
          rw [← hy] at cC
          have HS := Lib.hid (And.intro hs1 (And.intro hx1 hh1))
          have HX := Lib.hid (And.intro hx hy)
          have k3 : (q : Int) < (n : Int) := by omega
          have k4 : (p : Int) < (n : Int) := by omega
          have k5 : IntKind.i64.wrap (q : Int) = (q : Int) := wr64 (by omega) (by omega)
          have k6 : IntKind.i64.wrap (p : Int) = (p : Int) := wr64 (by omega) (by omega)
          have k7 : (s : Int) + (r : Int) = (q : Int) := by omega
          have k8 : (s : Int) + (c : Int) = (p : Int) := by omega
          have k9 : (r : Int) + 1 ≤ (c : Int) := by omega
          have k10 : (c : Int) ≤ 9223372036854775807 := by omega
          have HQ := Lib.hid (And.intro hq (And.intro hp (And.intro hcm (And.intro hcr (And.intro hcn hcp)))))
          clear hs1 hx1 hh1 hx hy hq hp hcm hcr hcn hcp
          by_cases hl : x < y
          · go_wp2
            go_quiet (first | (go_at_call 137; refine Calls.quiet_of_same (less_yes hl _)))
            go_wp2
            go_region
            all_goals go_wp2
            go_roundw
            case rel =>
              refine ⟨c, rfl, by have := HQ.out.2.2.2.1; omega, .inr HQ.out.2.2.2.2.1, Lib.hid ⟨sw f1 q p, HS.out.1.trans (.one f1 (by have := HQ.out.1; omega) (by have := HQ.out.1; have := HQ.out.2.2; omega) (by have := HQ.out.2.1; omega) (by have := HQ.out.2.1; have := HQ.out.2.2; omega)), ?_, HS.out.2.2.swp _ (by omega) (by omega) HX.out.1 HX.out.2⟩⟩
              rw [HQ.out.1, HQ.out.2.1]
              exact hpx_step HS.out.2.1 hr1 HQ.out.2.2.2.1 HQ.out.2.2.2.2.2 HQ.out.2.2.2.2.1 HQ.out.2.2.1 (by rw [← HQ.out.2.1, ← HQ.out.1, ← HX.out.1, ← HX.out.2]; exact hl)
            case measure => have := HQ.out.2.2.2.2.1; simp [intOf] <;> omega
          · have HE := Lib.hid (show ∀ q', Sift w B g cap n s lo hi f (wx.drewN q') from fun q' => ⟨f1, HS.out.1, hpx_end HS.out.2.1 (fun c' h1 h2 h3 => Int.le_trans (HQ.out.2.2.1 c' h1 h2 h3) (by rw [← HQ.out.2.1, ← HQ.out.1, ← HX.out.1, ← HX.out.2]; omega)), HS.out.2.2.drewN _⟩)
            have hd : decide (x < y) = false := decide_eq_false hl
            clear hl
            go_wp2
            go_quiet (first | (go_at_call 137; refine Calls.quiet_of_same (less_any _ _ _)))
            go_wp2
            exact bodyPost_ret (v := .tuple #[]) (results_none rfl _ _ _) rfl ⟨rfl, HE.out _⟩
end Go.Proofs.YtafenkepigmcaaaGreatDoor.So
/- The sort of numbers: heapsort, walked. -/
namespace Go.Proofs.YtafenkepigmcaaaGreatDoor.So
open Go Go.RowKit
/-- Behind a store the row's cells are still there. -/
theorem Own.set2 {w : World} {B g cap n i j : Nat} {f : Fn} (h : Own w B g cap n f) (hj : j < n) (u : Value) : (∃ v, (w.setCell ⟨g, i, none⟩ u).cell? ⟨g, j, none⟩ = some v) ∧ (w.setCell ⟨g, i, none⟩ u).frozen? ⟨g, j, none⟩ = false := by
  obtain ⟨cur, h1, _, _, _, h2⟩ := h.block
  have hb := heap_setCell_same w g i cur 23 u h1
  have hs : j < (cur.setIfInBounds i u).size := by
    rw [Array.size_setIfInBounds]
    exact (Array.getElem?_eq_some_iff.1 (h2 j hj)).1
  exact ⟨⟨(cur.setIfInBounds i u)[j], by simp only [World.cell?, hb]; simp [Array.getElem?_eq_getElem hs]⟩, by simp [World.frozen?, hb]⟩
set_option maxRecDepth 100000 in
set_option maxHeartbeats 2000000 in
theorem heap_any (B g cap n a b : Nat) (f : Fn) (w : World) (h : Own w B g cap n f) (hn : n ≤ 1152921504606846975) (hab : a < b) (hb : b ≤ n) :
    Calls Tryz.prog 132 #[.slice (some ⟨g, 0, none⟩) n cap, .int .i64 a, .int .i64 b] w fun e w' => e = .returned (.tuple #[]) ∧ Done w B g cap n a b f w' := by
  obtain ⟨L, hL⟩ : ∃ L, L = b - a := ⟨_, rfl⟩
  obtain ⟨m, hm⟩ : ∃ m, m = (L - 1) / 2 := ⟨_, rfl⟩
  have H := Lib.hid (Has.refl h)
  have kL : (b : Int) - (a : Int) = (L : Int) := by omega
  have kL1 : (L : Int) ≤ 1152921504606846975 := by omega
  have kL2 : (1 : Int) ≤ (L : Int) := by omega
  have km : ((L : Int) - 1) / 2 = (m : Int) := by omega
  have kt : ((L : Int) - 1).tdiv 2 = (m : Int) := by rw [Int.tdiv_eq_ediv_of_nonneg (by omega)]; omega
  have HM := Lib.hid (And.intro hL hm)
  clear h hL hm
  go_enter Tryz.func132, Tryz.ntmps132
  go_wp2
  go_loopw [9] (fun u wr => ∃ k : Nat, u = .int .i64 ((k : Int) - 1) ∧ k ≤ m + 1 ∧ Hid (∃ f', Sw a b f f' ∧ Hp a k L f' ∧ Has w B g cap n f' wr)) (fun u _ => (intOf u + 1).toNat)
  case atStart =>
    exact ⟨m + 1, by go_num, Nat.le_refl _, Lib.hid ⟨f, .refl f, hp_none f (by have := HM.out.1; have := HM.out.2; omega), H.out⟩⟩
  case round =>
    obtain ⟨k, rfl, hk, HK⟩ := hrel
    clear H
    by_cases h0 : 1 ≤ k
    · obtain ⟨r, rfl⟩ : ∃ r, k = r + 1 := ⟨k - 1, by omega⟩
      have kr : ((r + 1 : Nat) : Int) - 1 = (r : Int) := by omega
      simp only [kr]
      have kr0 : (0 : Int) ≤ (r : Int) := by omega
      have HS := Lib.hid (show ∀ f', Sw a b f f' → Hp a (r + 1) L f' → Has w B g cap n f' wr → Calls Tryz.prog 161 #[.slice (some ⟨g, 0, none⟩) n cap, .int .i64 r, .int .i64 L, .int .i64 a] wr fun e w' => e = .returned (.tuple #[]) ∧ ∃ f', Sw a b f f' ∧ Hp a r L f' ∧ Has w B g cap n f' w' from fun f' h1 h2 h3 => by
        refine (sift_any B g cap n a r L f' wr h3.1 hn (by have := HM.out.1; omega) (by have := HM.out.1; have := HM.out.2; omega) (hp_weak h2 rfl)).mono ?_
        rintro e w' ⟨rfl, f2, h4, h5, h6⟩
        exact ⟨rfl, f2, h1.trans (h4.mono (Nat.le_refl _) (by have := HM.out.1; omega)), h5, h3.trans h6⟩)
      go_wp2_with (first | (go_at_call 161; obtain ⟨f', h1, h2, h3⟩ := HK.out; refine (HS.out f' h1 h2 h3).mono ?_; rintro e w' ⟨rfl, h4⟩; have H4 := Lib.hid h4; clear h4 h1 h2 h3))
      go_roundw
      case rel => exact ⟨r, by go_num, by omega, H4⟩
      case measure => simp [intOf] <;> omega
    · obtain rfl : k = 0 := by omega
      have HP := Lib.hid (show ∃ f', Sw a b f f' ∧ Pop a L L f' ∧ Has w B g cap n f' wr by obtain ⟨f', h1, h2, h3⟩ := HK.out; exact ⟨f', h1, pop_start h2, h3⟩)
      clear HK
      simp only [show (((0 : Nat) : Int) - 1) = -1 from rfl]
      go_wp2
      go_loopw [10] (fun u wr => ∃ k : Nat, u = .int .i64 ((k : Int) - 1) ∧ k ≤ L ∧ Hid (∃ f', Sw a b f f' ∧ Pop a L k f' ∧ Has w B g cap n f' wr)) (fun u _ => (intOf u + 1).toNat)
      case atStart => exact ⟨L, rfl, Nat.le_refl _, HP⟩
      case round =>
        obtain ⟨k, rfl, hk, HK⟩ := hrel
        clear HP
        by_cases h0 : 1 ≤ k
        · obtain ⟨i, rfl⟩ : ∃ i, k = i + 1 := ⟨k - 1, by omega⟩
          have kr : ((i + 1 : Nat) : Int) - 1 = (i : Int) := by omega
          simp only [kr]
          have ki0 : (0 : Int) ≤ (i : Int) := by omega
          obtain ⟨f1, hs1, hp1, hh1⟩ := HK.out
          clear HK
          obtain ⟨q, hq⟩ : ∃ q, q = a + i := ⟨_, rfl⟩
          have cA := rd2 hh1 (i := a) (by omega)
          have cQ := rd2 hh1 (i := q) (by have := HM.out.1; omega)
          have eA := hh1.1.free a
          have eQ := hh1.1.free q
          obtain ⟨x, hx⟩ : ∃ x, x = f1 a := ⟨_, rfl⟩
          obtain ⟨y, hy⟩ : ∃ y, y = f1 q := ⟨_, rfl⟩
          rw [← hx] at cA
          rw [← hy] at cQ
          have k3 : (q : Int) < (n : Int) := by have := HM.out.1; omega
          have k4 : (a : Int) < (n : Int) := by omega
          have k5 : IntKind.i64.wrap (q : Int) = (q : Int) := wr64 (by omega) (by omega)
          have k7 : (a : Int) + (i : Int) = (q : Int) := by omega
          have k8 : (q : Int) ≤ 1152921504606846975 := by omega
          obtain ⟨⟨v2, cQ2⟩, eQ2⟩ := hh1.1.set2 (i := a) (j := q) (by have := HM.out.1; omega) (.int .u32 y)
          have hsw := fun z => hh1.swp z (i := a) (j := q) (by omega) (by have := HM.out.1; omega) hx hy
          obtain ⟨p1, p2, p3⟩ := pop_sw hp1 (by omega)
          rw [← hq] at p1 p2 p3
          have HS := Lib.hid (show ∀ z, Calls Tryz.prog 161 #[.slice (some ⟨g, 0, none⟩) n cap, .int .i64 (0 : Nat), .int .i64 i, .int .i64 a] (((wr.drewN z).setCell ⟨g, a, none⟩ (.int .u32 y)).setCell ⟨g, q, none⟩ (.int .u32 x)) fun e w' => e = .returned (.tuple #[]) ∧ ∃ f', Sw a b f f' ∧ Pop a L i f' ∧ Has w B g cap n f' w' from fun z => by
            refine (sift_any B g cap n a 0 i _ _ (hsw z).1 hn (by have := HM.out.1; omega) (by omega) p1).mono ?_
            rintro e w' ⟨rfl, f2, h4, h5, h6⟩
            refine ⟨rfl, f2, hs1.trans ((Sw.one f1 (Nat.le_refl a) hab (by omega) (by have := HM.out.1; omega)).trans (h4.mono (Nat.le_refl _) (by have := HM.out.1; omega))), pop_sift (by rw [← hq]; exact p2) p3 h4 h5, (hsw z).trans h6⟩)
          clear hs1 hp1 hh1 hx hy hsw p1 p2 p3 hq
          go_wp2
          go_region
          all_goals go_wp2_with (first | (go_at_call 161; refine (HS.out _).mono ?_; rintro e w' ⟨rfl, h4⟩; have H4 := Lib.hid h4; clear h4))
          go_roundw
          case rel => exact ⟨i, by go_num, by omega, H4⟩
          case measure => simp [intOf] <;> omega
        · obtain rfl : k = 0 := by omega
          have HE := Lib.hid (show Done w B g cap n a b f wr by obtain ⟨f', h1, h2, h3⟩ := HK.out; exact ⟨f', h1, by have := pop_end h2; rwa [show a + L = b by have := HM.out.1; omega] at this, h3⟩)
          clear HK
          simp only [show (((0 : Nat) : Int) - 1) = -1 from rfl]
          go_wp2
          go_end0
          exact ⟨rfl, HE.out⟩
end Go.Proofs.YtafenkepigmcaaaGreatDoor.So
