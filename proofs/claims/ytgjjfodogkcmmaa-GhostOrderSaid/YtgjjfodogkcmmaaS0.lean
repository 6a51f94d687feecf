/- The sort's mathematics: what swaps do to a row of numbers. -/
import Derived.Lib.Hide
namespace Go.Proofs.Ytgjjfodogkcmmaa.So
abbrev Fn := Nat → Int
def sw (f : Fn) (i j : Nat) : Fn := fun k => if k = i then f j else if k = j then f i else f k
/-- By swaps between a and b. -/
inductive Sw (a b : Nat) : Fn → Fn → Prop
  | refl (f : Fn) : Sw a b f f
  | step {f g : Fn} {i j : Nat} : Sw a b f g → a ≤ i → i < b → a ≤ j → j < b → Sw a b f (sw g i j)
theorem Sw.one {a b : Nat} (f : Fn) {i j : Nat} (h1 : a ≤ i) (h2 : i < b) (h3 : a ≤ j) (h4 : j < b) : Sw a b f (sw f i j) := .step (.refl f) h1 h2 h3 h4
theorem Sw.trans {a b : Nat} {f g h : Fn} (h1 : Sw a b f g) (h2 : Sw a b g h) : Sw a b f h := by
  induction h2 with
  | refl => exact h1
  | step _ p q r s ih => exact .step ih p q r s
theorem Sw.mono {a b c d : Nat} {f g : Fn} (h : Sw a b f g) (h1 : c ≤ a) (h2 : b ≤ d) : Sw c d f g := by
  induction h with
  | refl => exact .refl _
  | step _ p q r s ih => exact .step ih (by omega) (by omega) (by omega) (by omega)
theorem Sw.out {a b : Nat} {f g : Fn} (h : Sw a b f g) : ∀ k, (k < a ∨ b ≤ k) → g k = f k := by
  induction h with
  | refl => exact fun _ _ => rfl
  | step _ p q r s ih =>
    intro k hk
    rw [← ih k hk]
    unfold sw
    rw [if_neg (by omega), if_neg (by omega)]
theorem Sw.all {a b : Nat} {f g : Fn} (h : Sw a b f g) (P : Int → Prop) (hf : ∀ k, a ≤ k → k < b → P (f k)) : ∀ k, a ≤ k → k < b → P (g k) := by
  induction h with
  | refl => exact hf
  | step _ p q r s ih =>
    intro k h1 h2
    unfold sw
    split
    · exact ih _ r s
    · split
      · exact ih _ p q
      · exact ih k h1 h2
def Up (a b : Nat) (f : Fn) : Prop := ∀ i j, a ≤ i → i ≤ j → j < b → f i ≤ f j
theorem up_small {a b : Nat} (f : Fn) (h : b ≤ a + 1) : Up a b f := fun i j h1 h2 h3 => by
  obtain rfl : i = j := by omega
  exact Int.le_refl _
theorem Up.mono {a b c d : Nat} {f : Fn} (h : Up a b f) (h1 : a ≤ c) (h2 : d ≤ b) : Up c d f := fun i j p q r => h i j (by omega) q (by omega)
theorem Up.snoc {a i : Nat} {f : Fn} (h : Up a i f) (h1 : a < i) (h2 : f (i - 1) ≤ f i) : Up a (i + 1) f := fun p q h3 h4 h5 => by
  by_cases e : q = i
  · subst e
    by_cases e2 : p = q
    · subst e2; exact Int.le_refl _
    · have := h p (q - 1) h3 (by omega) (by omega); omega
  · exact h p q h3 h4 (by omega)
theorem Up.eq {a b : Nat} {f g : Fn} (h : Up a b f) (e : ∀ k, a ≤ k → k < b → g k = f k) : Up a b g := fun i j p q r => by
  rw [e i p (by omega), e j (by omega) r]; exact h i j p q r
/-- One number is on its way to the left. -/
def Ins (a j i : Nat) (f : Fn) : Prop := (∀ p q, a ≤ p → p ≤ q → q ≤ i → p ≠ j → q ≠ j → f p ≤ f q) ∧ (∀ q, j < q → q ≤ i → f j ≤ f q)
theorem ins_start {a i : Nat} {f : Fn} (h : Up a i f) : Ins a i i f := ⟨fun p q h1 h2 h3 h4 h5 => h p q h1 h2 (by omega), fun q h1 h2 => by omega⟩
theorem ins_step {a j i : Nat} {f : Fn} (h : Ins a (j + 1) i f) (ha : a ≤ j) (hi : j + 1 ≤ i) (hl : f (j + 1) < f j) : Ins a j i (sw f (j + 1) j) := by
  refine ⟨fun p q h1 h2 h3 h4 h5 => ?_, fun q h1 h2 => ?_⟩
  · unfold sw
    by_cases ep : p = j + 1
    · subst ep
      by_cases eq : q = j + 1
      · subst eq; simp
      · rw [if_pos rfl, if_neg eq, if_neg h5]
        exact h.1 j q ha (by omega) h3 (by omega) eq
    · rw [if_neg ep, if_neg h4]
      by_cases eq : q = j + 1
      · subst eq
        rw [if_pos rfl]
        exact h.1 p j h1 (by omega) (by omega) ep (by omega)
      · rw [if_neg eq, if_neg h5]
        exact h.1 p q h1 h2 h3 ep eq
  · unfold sw
    rw [if_neg (by omega), if_pos rfl]
    by_cases eq : q = j + 1
    · subst eq; rw [if_pos rfl]; omega
    · rw [if_neg eq, if_neg (by omega)]
      exact h.2 q (by omega) h2
theorem ins_end {a j i : Nat} {f : Fn} (h : Ins a j i f) (ha : a ≤ j) (hi : j ≤ i) (he : j = a ∨ f (j - 1) ≤ f j) : Up a (i + 1) f := fun p q h1 h2 h3 => by
  by_cases ep : p = j
  · subst ep
    by_cases eq : q = p
    · subst eq; exact Int.le_refl _
    · exact h.2 q (by omega) (by omega)
  · by_cases eq : q = j
    · subst eq
      rcases he with he | he
      · omega
      · by_cases e1 : p = q - 1
        · subst e1; exact he
        · have := h.1 p (q - 1) h1 (by omega) (by omega) ep (by omega); omega
    · exact h.1 p q h1 h2 (by omega) ep eq
theorem ins_swap {a b j i : Nat} (f : Fn) (ha : a ≤ j) (hi : j + 1 ≤ i) (hb : i < b) : Sw a b f (sw f (j + 1) j) := .one f (by omega) (by omega) ha (by omega)
/-- Nothing from a on is less than what stands ahead of it. -/
def Low (a b : Nat) (f : Fn) : Prop := 0 < a → ∀ k, a ≤ k → k < b → f (a - 1) ≤ f k
theorem Low.sw {a b : Nat} {f g : Fn} (h : Low a b f) (hs : Sw a b f g) : Low a b g := fun h0 k h1 h2 => by
  rw [hs.out (a - 1) (.inl (by omega))]
  exact hs.all (fun x => f (a - 1) ≤ x) (h h0) k h1 h2
theorem Low.part {a b c d : Nat} {f : Fn} (h : Low a b f) (h1 : c = a) (h2 : d ≤ b) : Low c d f := fun h0 k p q => by
  subst h1; exact h h0 k p (by omega)
/-! ### Parts -/
def Part (a b i j : Nat) (f : Fn) : Prop := (∀ k, a < k → k < i → f k < f a) ∧ (∀ k, j < k → k < b → f a ≤ f k)
theorem part_start (a b : Nat) (f : Fn) : Part a b (a + 1) (b - 1) f := ⟨fun k h1 h2 => by omega, fun k h1 h2 => by omega⟩
theorem part_up {a b i j : Nat} {f : Fn} (h : Part a b i j f) (hl : f i < f a) : Part a b (i + 1) j f := ⟨fun k h1 h2 => by
  by_cases e : k = i
  · subst e; exact hl
  · exact h.1 k h1 (by omega), h.2⟩
theorem part_down {a b i j : Nat} {f : Fn} (h : Part a b i (j + 1) f) (hl : f a ≤ f (j + 1)) : Part a b i j f := ⟨h.1, fun k h1 h2 => by
  by_cases e : k = j + 1
  · subst e; exact hl
  · exact h.2 k (by omega) h2⟩
theorem part_swap {a b i j : Nat} {f : Fn} (h : Part a b i (j + 1) f) (ha : a < i) (hij : i < j + 1) (h1 : f a ≤ f i) (h2 : f (j + 1) < f a) : Part a b (i + 1) j (sw f i (j + 1)) := by
  refine ⟨fun k p q => ?_, fun k p q => ?_⟩
  · unfold sw
    rw [if_neg (show a ≠ i by omega), if_neg (show a ≠ j + 1 by omega)]
    by_cases e : k = i
    · subst e; rw [if_pos rfl]; exact h2
    · rw [if_neg e, if_neg (by omega)]; exact h.1 k p (by omega)
  · unfold sw
    rw [if_neg (show a ≠ i by omega), if_neg (show a ≠ j + 1 by omega)]
    by_cases e : k = j + 1
    · subst e; rw [if_neg (by omega), if_pos rfl]; exact h1
    · rw [if_neg (by omega), if_neg e]; exact h.2 k (by omega) q
/-- All ahead of m is less than what stands there, all behind it is not. -/
def Cut (a b m : Nat) (f : Fn) : Prop := (∀ k, a ≤ k → k < m → f k ≤ f m) ∧ (∀ k, m < k → k < b → f m ≤ f k)
theorem part_end {a b j : Nat} {f : Fn} (h : Part a b (j + 1) j f) (ha : a ≤ j) : Cut a b j (sw f j a) := by
  refine ⟨fun k p q => ?_, fun k p q => ?_⟩
  · unfold sw
    rw [if_pos rfl, if_neg (by omega)]
    by_cases e : k = a
    · subst e
      rw [if_pos rfl]
      have := h.1 j (by omega) (by omega); omega
    · rw [if_neg e]
      have := h.1 k (by omega) (by omega); omega
  · unfold sw
    rw [if_pos rfl, if_neg (by omega), if_neg (by omega)]
    exact h.2 k p q
def PartE (a b i j : Nat) (f : Fn) : Prop := (∀ k, a < k → k < i → f k ≤ f a) ∧ (∀ k, j < k → k < b → f a < f k)
theorem parte_start (a b : Nat) (f : Fn) : PartE a b (a + 1) (b - 1) f := ⟨fun k h1 h2 => by omega, fun k h1 h2 => by omega⟩
theorem parte_up {a b i j : Nat} {f : Fn} (h : PartE a b i j f) (hl : f i ≤ f a) : PartE a b (i + 1) j f := ⟨fun k h1 h2 => by
  by_cases e : k = i
  · subst e; exact hl
  · exact h.1 k h1 (by omega), h.2⟩
theorem parte_down {a b i j : Nat} {f : Fn} (h : PartE a b i (j + 1) f) (hl : f a < f (j + 1)) : PartE a b i j f := ⟨h.1, fun k h1 h2 => by
  by_cases e : k = j + 1
  · subst e; exact hl
  · exact h.2 k (by omega) h2⟩
theorem parte_swap {a b i j : Nat} {f : Fn} (h : PartE a b i (j + 1) f) (ha : a < i) (hij : i < j + 1) (h1 : f a < f i) (h2 : f (j + 1) ≤ f a) : PartE a b (i + 1) j (sw f i (j + 1)) := by
  refine ⟨fun k p q => ?_, fun k p q => ?_⟩
  · unfold sw
    rw [if_neg (show a ≠ i by omega), if_neg (show a ≠ j + 1 by omega)]
    by_cases e : k = i
    · subst e; rw [if_pos rfl]; exact h2
    · rw [if_neg e, if_neg (by omega)]; exact h.1 k p (by omega)
  · unfold sw
    rw [if_neg (show a ≠ i by omega), if_neg (show a ≠ j + 1 by omega)]
    by_cases e : k = j + 1
    · subst e; rw [if_neg (by omega), if_pos rfl]; exact h1
    · rw [if_neg (by omega), if_neg e]; exact h.2 k (by omega) q
/-- All ahead of m are one, all behind are greater. -/
def CutE (a b m : Nat) (f : Fn) : Prop := (∀ k, a ≤ k → k < m → f k ≤ f a) ∧ (∀ k, m ≤ k → k < b → f a < f k)
theorem parte_end {a b j : Nat} {f : Fn} (h : PartE a b (j + 1) j f) : CutE a b (j + 1) f := ⟨fun k p q => by
  by_cases e : k = a
  · subst e; exact Int.le_refl _
  · exact h.1 k (by omega) q, fun k p q => h.2 k (by omega) q⟩
/-! ### What is left to be done -/
/-- Whoever puts the part from c to d in order has all in order. -/
def Rest (a b c d : Nat) (f : Fn) : Prop := a ≤ c ∧ d ≤ b ∧ ∀ g, Sw c d f g → Up c d g → Up a b g
theorem rest_start (a b : Nat) (f : Fn) : Rest a b a b f := ⟨Nat.le_refl _, Nat.le_refl _, fun _ _ h => h⟩
theorem Rest.sw {a b c d : Nat} {f g : Fn} (h : Rest a b c d f) (hs : Sw c d f g) : Rest a b c d g := ⟨h.1, h.2.1, fun k h1 h2 => h.2.2 k (hs.trans h1) h2⟩
theorem rest_equal {a b c d m : Nat} {f : Fn} (h : Rest a b c d f) (hm : c ≤ m) (hc : CutE c d m f) (hl : ∀ k, c ≤ k → k < d → f c ≤ f k) : Rest a b m d f := by
  refine ⟨by have := h.1; omega, h.2.1, fun g h1 h2 => h.2.2 g (h1.mono hm (Nat.le_refl _)) fun i j p q r => ?_⟩
  have ho := h1.out
  by_cases hj : j < m
  · rw [ho i (.inl (by omega)), ho j (.inl hj)]
    have := hc.1 i p (by omega)
    have := hl j (by omega) r
    omega
  · by_cases hi : i < m
    · rw [ho i (.inl hi)]
      have h3 := hc.1 i p hi
      have h4 := h1.all (fun x => f c < x) (fun k k1 k2 => hc.2 k k1 k2) j (by omega) r
      have h5 : f c < g j := h4
      omega
    · exact h2 i j (by omega) q r
theorem low_equal {c d m : Nat} {f : Fn} (hm : c < m) (hc : CutE c d m f) : Low m d f := fun h0 k p q => by
  have h1 := hc.1 (m - 1) (by omega) (by omega)
  have h2 := hc.2 k p q
  omega
theorem rest_left {a b c d m : Nat} {f g : Fn} (h : Rest a b c d f) (hm : c ≤ m) (hd : m < d) (hc : Cut c d m f) (hs : Sw c m f g) (hu : Up c m g) : Rest a b (m + 1) d g := by
  refine ⟨by have := h.1; omega, h.2.1, fun k h1 h2 => h.2.2 k ((hs.mono (Nat.le_refl _) (by omega)).trans (h1.mono (by omega) (Nat.le_refl _))) fun i j p q r => ?_⟩
  have ho := h1.out
  have hg := hs.out
  have hA := hs.all (fun x => x ≤ f m) (fun x x1 x2 => hc.1 x x1 x2)
  have hB : ∀ x, m + 1 ≤ x → x < d → f m ≤ k x := h1.all (fun x => f m ≤ x) (fun x x1 x2 => by rw [hg x (.inr (by omega))]; exact hc.2 x (by omega) x2)
  have hA' : ∀ x, c ≤ x → x < m → k x ≤ f m := fun x x1 x2 => by rw [ho x (.inl (by omega))]; exact hA x x1 x2
  have hM : k m = f m := by rw [ho m (.inl (by omega)), hg m (.inr (Nat.le_refl _))]
  by_cases hj : j < m
  · rw [ho i (.inl (by omega)), ho j (.inl (by omega))]; exact hu i j p q hj
  · by_cases hi : i < m
    · have h3 := hA' i p hi
      by_cases e : j = m
      · subst e; rw [hM]; exact h3
      · have := hB j (by omega) r; omega
    · by_cases e : i = m
      · subst e
        by_cases e2 : j = i
        · subst e2; exact Int.le_refl _
        · rw [hM]; exact hB j (by omega) r
      · exact h2 i j (by omega) q r
theorem rest_right {a b c d m : Nat} {f g : Fn} (h : Rest a b c d f) (hm : c ≤ m) (hd : m < d) (hc : Cut c d m f) (hs : Sw (m + 1) d f g) (hu : Up (m + 1) d g) : Rest a b c m g := by
  refine ⟨h.1, by have := h.2.1; omega, fun k h1 h2 => h.2.2 k ((hs.mono (by omega) (Nat.le_refl _)).trans (h1.mono (Nat.le_refl _) (by omega))) fun i j p q r => ?_⟩
  have ho := h1.out
  have hg := hs.out
  have hB := hs.all (fun x => f m ≤ x) (fun x x1 x2 => hc.2 x (by omega) x2)
  have hA : ∀ x, c ≤ x → x < m → k x ≤ f m := h1.all (fun x => x ≤ f m) (fun x x1 x2 => by rw [hg x (.inl (by omega))]; exact hc.1 x x1 x2)
  have hB' : ∀ x, m + 1 ≤ x → x < d → f m ≤ k x := fun x x1 x2 => by rw [ho x (.inr (by omega))]; exact hB x x1 x2
  have hM : k m = f m := by rw [ho m (.inr (Nat.le_refl _)), hg m (.inl (by omega))]
  by_cases hj : j < m
  · exact h2 i j p q hj
  · by_cases hi : i < m
    · have h3 := hA i p hi
      by_cases e : j = m
      · subst e; rw [hM]; exact h3
      · have := hB' j (by omega) r; omega
    · by_cases e : i = m
      · subst e
        by_cases e2 : j = i
        · subst e2; exact Int.le_refl _
        · rw [hM]; exact hB' j (by omega) r
      · rw [ho i (.inr (by omega)), ho j (.inr (by omega))]
        exact hu i j (by omega) q r
theorem low_left {c d m : Nat} {f : Fn} (h : Low c d f) (hd : m ≤ d) : Low c m f := h.part rfl hd
theorem low_right {c d m : Nat} {f g : Fn} (hc : Cut c d m f) (hs : Sw c m f g) : Low (m + 1) d g := fun h0 k p q => by
  rw [show m + 1 - 1 = m by omega, hs.out m (.inr (Nat.le_refl _)), hs.out k (.inr (by omega))]
  exact hc.2 k (by omega) q
theorem low_still {c d m : Nat} {f g : Fn} (h : Low c d f) (hd : m < d) (hs : Sw (m + 1) d f g) (hm : c ≤ m) : Low c m g := fun h0 k p q => by
  rw [hs.out (c - 1) (.inl (by omega)), hs.out k (.inl (by omega))]
  exact h h0 k p (by omega)
/-! ### Heaps -/
def Hp (s lo n : Nat) (f : Fn) : Prop := ∀ c, 1 ≤ c → c < n → lo ≤ (c - 1) / 2 → f (s + c) ≤ f (s + (c - 1) / 2)
/-- A heap but for what stands at r. -/
def HpX (s lo n r : Nat) (f : Fn) : Prop := (∀ c, 1 ≤ c → c < n → lo ≤ (c - 1) / 2 → (c - 1) / 2 ≠ r → f (s + c) ≤ f (s + (c - 1) / 2)) ∧ (∀ c, 1 ≤ c → c < n → (c - 1) / 2 = r → lo < r → lo ≤ (r - 1) / 2 → f (s + c) ≤ f (s + (r - 1) / 2))
theorem hpx_end {s lo n r : Nat} {f : Fn} (h : HpX s lo n r f) (he : ∀ c, 1 ≤ c → c < n → (c - 1) / 2 = r → f (s + c) ≤ f (s + r)) : Hp s lo n f := fun c h1 h2 h3 => by
  by_cases e : (c - 1) / 2 = r
  · rw [e]; exact he c h1 h2 e
  · exact h.1 c h1 h2 h3 e
theorem hpx_step {s lo n r c : Nat} {f : Fn} (h : HpX s lo n r f) (hr : lo ≤ r) (hc : (c - 1) / 2 = r) (hc1 : 1 ≤ c) (hcn : c < n) (hmax : ∀ c', 1 ≤ c' → c' < n → (c' - 1) / 2 = r → f (s + c') ≤ f (s + c)) (hl : f (s + r) < f (s + c)) : HpX s lo n c (sw f (s + r) (s + c)) := by
  have hrc : r ≠ c := by omega
  refine ⟨fun x h1 h2 h3 h4 => ?_, fun x h1 h2 h3 h4 h5 => ?_⟩
  · unfold sw
    by_cases e : (x - 1) / 2 = r
    · rw [e, if_pos rfl]
      by_cases ex : x = r
      · omega
      · rw [if_neg (by omega)]
        by_cases ec : x = c
        · subst ec; rw [if_pos rfl]; omega
        · rw [if_neg (by omega)]; exact hmax x h1 h2 e
    · rw [if_neg (show s + (x - 1) / 2 ≠ s + r by omega), if_neg (show s + (x - 1) / 2 ≠ s + c by omega)]
      by_cases ex : x = r
      · subst ex
        rw [if_pos rfl]
        exact h.2 c hc1 hcn hc (by omega) h3
      · rw [if_neg (by omega), if_neg (fun e2 => e (by rw [show x = c by omega]; exact hc))]
        exact h.1 x h1 h2 h3 e
  · unfold sw
    rw [hc, if_pos rfl, if_neg (by omega), if_neg (by omega)]
    have := h.1 x h1 h2 (by omega) (by omega)
    rw [h3] at this
    exact this
theorem hp_weak {s lo n r : Nat} {f : Fn} (h : Hp s (r + 1) n f) (hr : lo = r) : HpX s lo n r f := ⟨fun c h1 h2 h3 h4 => h c h1 h2 (by omega), fun c h1 h2 h3 h4 h5 => by omega⟩
theorem hp_none {s lo n : Nat} (f : Fn) (h : n ≤ 2 * lo + 1) : Hp s lo n f := fun c h1 h2 h3 => by omega
theorem hp_max {s n : Nat} {f : Fn} (h : Hp s 0 n f) : ∀ k, k < n → f (s + k) ≤ f s := fun k => by
  induction k using Nat.strongRecOn with
  | _ k ih =>
    intro hk
    by_cases e : k = 0
    · subst e; exact Int.le_refl _
    · have h1 := h k (by omega) hk (by omega)
      have h2 := ih ((k - 1) / 2) (by omega) (by omega)
      omega
/-- The greatest ones stand behind, in order. -/
def Pop (s n i : Nat) (f : Fn) : Prop := Hp s 0 i f ∧ Up (s + i) (s + n) f ∧ ∀ k q, k < i → i ≤ q → q < n → f (s + k) ≤ f (s + q)
theorem pop_start {s n : Nat} {f : Fn} (h : Hp s 0 n f) : Pop s n n f := ⟨h, up_small _ (by omega), fun k q h1 h2 h3 => by omega⟩
theorem pop_sw {s n i : Nat} {f : Fn} (h : Pop s n (i + 1) f) (hi : i < n) : HpX s 0 i 0 (sw f s (s + i)) ∧ Up (s + i) (s + n) (sw f s (s + i)) ∧ ∀ k q, k < i → i ≤ q → q < n → sw f s (s + i) (s + k) ≤ sw f s (s + i) (s + q) := by
  have hm := hp_max h.1
  have hall : ∀ k, k ≤ i → sw f s (s + i) (s + k) ≤ f s := fun k hk => by
    unfold sw
    split
    · exact hm i (by omega)
    · split
      · exact Int.le_refl _
      · exact hm k (by omega)
  have hbeh : ∀ q, i < q → q < n → sw f s (s + i) (s + q) = f (s + q) := fun q h1 h2 => by
    unfold sw
    rw [if_neg (by omega), if_neg (by omega)]
  have hat : sw f s (s + i) (s + i) = f s := by
    unfold sw
    by_cases e : i = 0
    · subst e; simp
    · rw [if_neg (by omega), if_pos rfl]
  refine ⟨⟨fun c h1 h2 h3 h4 => ?_, fun c h1 h2 h3 h4 h5 => by omega⟩, fun p q h1 h2 h3 => ?_, fun k q h1 h2 h3 => ?_⟩
  · unfold sw
    rw [if_neg (by omega), if_neg (by omega), if_neg (by omega), if_neg (by omega)]
    exact h.1 c h1 (by omega) (by omega)
  · obtain ⟨p', rfl⟩ : ∃ p', p = s + p' := ⟨p - s, by omega⟩
    obtain ⟨q', rfl⟩ : ∃ q', q = s + q' := ⟨q - s, by omega⟩
    by_cases e : p' = i
    · subst e
      rw [hat]
      by_cases e2 : q' = p'
      · subst e2; rw [hat]; exact Int.le_refl _
      · rw [hbeh q' (by omega) (by omega)]
        have := h.2.2 0 q' (by omega) (by omega) (by omega)
        simpa using this
    · rw [hbeh p' (by omega) (by omega), hbeh q' (by omega) (by omega)]
      exact h.2.1 _ _ (by omega) h2 h3
  · have h4 := hall k (by omega)
    by_cases e : q = i
    · subst e; rw [hat]; exact h4
    · rw [hbeh q (by omega) h3]
      have := h.2.2 0 q (by omega) (by omega) h3
      simp at this
      omega
theorem pop_sift {s n i : Nat} {f g : Fn} (hu : Up (s + i) (s + n) f) (ha : ∀ k q, k < i → i ≤ q → q < n → f (s + k) ≤ f (s + q)) (hs : Sw s (s + i) f g) (hp : Hp s 0 i g) : Pop s n i g := by
  refine ⟨hp, hu.eq (fun k h1 h2 => hs.out k (.inr h1)), fun k q h1 h2 h3 => ?_⟩
  rw [hs.out (s + q) (.inr (by omega))]
  exact hs.all (fun x => x ≤ f (s + q)) (fun x x1 x2 => by have := ha (x - s) q (by omega) h2 h3; rwa [show s + (x - s) = x by omega] at this) (s + k) (by omega) (by omega)
theorem pop_end {s n : Nat} {f : Fn} (h : Pop s n 0 f) : Up s (s + n) f := h.2.1
/-! ### Behind it all: a permutation -/
theorem sw_perm (g : Fn) (n i j : Nat) (hi : i < n) (hj : j < n) : ((List.range n).map (sw g i j)).Perm ((List.range n).map g) := by
  let t : Nat → Nat := fun k => if k = i then j else if k = j then i else k
  have ht : ∀ k, t (t k) = k := fun k => by
    show (if (if k = i then j else if k = j then i else k) = i then j else if (if k = i then j else if k = j then i else k) = j then i else (if k = i then j else if k = j then i else k)) = k
    by_cases h1 : k = i
    · subst h1; by_cases h2 : j = k <;> simp [h2]
    · by_cases h2 : k = j
      · subst h2; simp [h1]
      · simp [h1, h2]
  have e : (List.range n).map (sw g i j) = ((List.range n).map t).map g := by
    rw [List.map_map]
    apply List.map_congr_left
    intro k _
    show (if k = i then g j else if k = j then g i else g k) = g (if k = i then j else if k = j then i else k)
    split
    · rfl
    · split <;> rfl
  rw [e]
  apply List.Perm.map
  have nd : (List.range n).Nodup := List.nodup_range
  have nd2 : ((List.range n).map t).Nodup := by
    unfold List.Nodup at *
    rw [List.pairwise_map]
    exact nd.imp (fun h e => h (by have := congrArg t e; rwa [ht, ht] at this))
  have htn : ∀ k, k < n → t k < n := fun k hk => by
    show (if k = i then j else if k = j then i else k) < n
    split
    · exact hj
    · split
      · exact hi
      · exact hk
  refine (List.perm_ext_iff_of_nodup nd2 nd).2 (fun x => ?_)
  simp only [List.mem_map, List.mem_range]
  exact ⟨fun ⟨y, hy, e⟩ => e ▸ htn y hy, fun hx => ⟨t x, htn x hx, ht x⟩⟩
theorem Sw.perm {n : Nat} {f g : Fn} (h : Sw 0 n f g) : ((List.range n).map g).Perm ((List.range n).map f) := by
  induction h with
  | refl => exact List.Perm.refl _
  | step _ p q r s ih => exact (sw_perm _ _ _ _ q s).trans ih
end Go.Proofs.Ytgjjfodogkcmmaa.So
