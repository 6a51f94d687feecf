/- plate: halves of pages; what was written, page by page, in memory. -/
import Derived.Test.YtjfbgihjgnbeeaaV5
import Derived.Deep.RegionLaw
namespace Go.Proofs.Ytjfbgihjgnbeeaa.Pl
open Go Go.RowKit
/-- The half of a page from h on. -/
def half (h : Nat) (c : Array Value) : List Value := (c.toList.drop h).take 32
theorem ov_half {p c : Array Value} (hp : IsPage p) (hc : IsPage c) (way : Int) {h : Nat} (hh : h = 0 ∨ h = 32) : half h (Ov p c way) = half h p ∨ half h (Ov p c way) = half h c := by
  have lp : p.toList.length = 64 := by rw [Array.length_toList]; exact hp.1
  have lc : c.toList.length = 64 := by rw [Array.length_toList]; exact hc.1
  unfold Ov
  split
  · exact .inr rfl
  · split
    · rcases hh with rfl | rfl
      · right
        simp only [half, splice, List.take_zero, List.nil_append, List.drop_zero]
        rw [List.take_append_of_le_length (by rw [List.length_take]; omega), List.take_take, Nat.min_self]
      · left
        simp only [half, splice, List.take_zero, List.nil_append]
        rw [List.drop_append_of_le_length (by rw [List.length_take]; omega), List.drop_eq_nil_of_le (by rw [List.length_take]; omega)]
        simp [lc]
    · split
      · rcases hh with rfl | rfl
        · left
          simp only [half, splice, List.drop_zero]
          rw [List.take_append_of_le_length (by rw [List.length_take]; omega), List.take_take, Nat.min_self]
        · right
          simp only [half, splice]
          rw [List.drop_append_of_le_length (by rw [List.length_take]; omega), List.drop_eq_nil_of_le (by rw [List.length_take]; omega), List.nil_append]
          rw [List.take_append_of_le_length (by rw [List.length_drop]; omega)]
      · exact .inl rfl
theorem rep_page {ks : List Value} {L : List Ent} {p : Int → Array Value} (hp : ∀ j, IsPage (p j)) : ∀ (k : Nat) (j : Int), IsPage (rep ks L p k j)
  | 0, j => hp j
  | k + 1, j => by
    have ih := rep_page (ks := ks) (L := L) hp k
    cases ht : L[k]? with
    | none => simp only [rep, ht]; exact ih j
    | some t =>
      rw [rep_succ ht]
      simp only [upd]
      split
      · exact ov_page (ih _) t.2.2.2 _
      · exact ih j
theorem rep_half {ks : List Value} {L : List Ent} {p : Int → Array Value} (hp : ∀ j, IsPage (p j)) {h : Nat} (hh : h = 0 ∨ h = 32) (i : Int) : ∀ k : Nat, half h (rep ks L p k i) = half h (p i) ∨ ∃ t ∈ L.map Subtype.val, t.1 = i ∧ half h (rep ks L p k i) = half h t.2.2
  | 0 => .inl rfl
  | k + 1 => by
    have ih := rep_half (ks := ks) (L := L) hp hh i k
    cases ht : L[k]? with
    | none => simp only [rep, ht]; exact ih
    | some t =>
      rw [rep_succ ht]
      simp only [upd]
      split
      · rename_i e
        rcases ov_half (rep_page (ks := ks) (L := L) hp k t.1.1) t.2.2.2 (wy ks k) hh with h1 | h1
        · rw [h1, ← e]; exact ih
        · exact .inr ⟨t.1, List.mem_map.2 ⟨t, List.mem_of_getElem? ht, rfl⟩, e.symm, h1⟩
      · exact ih
/-- A block beside the plate is written. -/
theorem Pt.set {B b bm m : Nat} {G : Nat → Prop} {s : PSt} {W W' : World} {r : Option Nat} (h : Pt B b bm m G s W) (hg : W.grownBy W' r) (hG : ∀ g, r = some g → G g) : Pt B b bm m G s W' := by
  obtain ⟨v, F, n, h1, h2, h3, h4⟩ := h
  have ht : Turned G W W' := .of_grown hg hG
  exact ⟨v, F, n, h1.on ht h3, h2, h3, fun k hk => Nat.lt_of_lt_of_le (h4 k hk) ht.size⟩
/-- As 'step_append_made', up to a page. -/
theorem step_append_page {ops : Array Oper} {o : Oper} {a : Act} {w : World} {K : Act → World → Prop} {Q : Exit → Act → World → Prop} {E : Prop} (hw : Region.wanted o (yielded ops a.tmps) = true) (s x : Operand)
    (ho : o.op = .call { callee := .builtin .append, args := #[s, x], argTypes := #[31, 3] }) (base g n cap m : Nat) (xs : List Value) (hs : a.eval s = .slice (some ⟨g, 0, none⟩) n cap) (hx : a.eval x = .int .i64 m) (hown : w.ownsRow base 5 1 (.slice (some ⟨g, 0, none⟩) n cap) n xs) (hb : base ≤ w.heap.size) (hn : n ≤ 1000) (hm : m ≤ 1000) (hnm : n + m = 64)
    (h : ∀ g' cap' w', w'.ownsRow base 5 1 (.slice (some ⟨g', 0, none⟩) 64 cap') 64 (xs ++ zs m) → w.grownBy w' (some g) → (g' = g ∨ g' = w.heap.size) → K (a.put o.dst (.slice (some ⟨g', 0, none⟩) 64 cap')) w') : if Region.wanted o (yielded ops a.tmps) = true then Oper.wp Try.prog o a w K Q else E := by
  refine step_append_made hw s x ho base g n cap m xs hs hx hown hb hn hm ?_
  rw [hnm]
  exact h
/-- Restart of one plate. -/
theorem pt_restart {B b bm m : Nat} {G : Nat → Prop} {s : PSt} {W : World} {p : Int → Array Value} (h : Pt B b bm m G s W) (hoff : s.off = true) (hL : Lead p s) (hop : s.op.length ≤ 1000) (hm : m ≤ 10000) (g len cap : Nat) (ks : List Value) (hl : ks.length = len) (hlen : len < 4611686018427387904) (hs : Src W (some ⟨g, 0, none⟩) ks) (hg : G g) :
    Calls Try.prog 20 #[.pointer (some ⟨b, 0, none⟩), .agg #[.slice (some ⟨g, 0, none⟩) len cap]] W fun e w' => e = .returned (.int .i64 0) ∧ (∃ s1, Woke ks p s s1 ∧ Pt B b bm (m + 2000) G s1 w') ∧ Below B W w' ∧ Same G W w' := by
  obtain ⟨v, F, n, h1, h2, h3, h4⟩ := h
  refine (restart_ok b n bm B F v s (some ⟨g, 0, none⟩) len cap ks W h1 hoff hl hlen hs (fun ad e hF => by cases e; exact h3 g hF hg) (by unfold maxLen; omega) (by omega)).mono ?_
  rintro e w' ⟨rfl, L, hLs, hD⟩
  obtain ⟨q1, q2, q3⟩ := pt_did h1 hD (m := m + 2000) (by omega) h3 h4
  refine ⟨rfl, ⟨{ s with pg := rep ks L (unl (bk L) s.pg) L.length, op := [], off := false, left := 0 }, ⟨rfl, rfl, rfl, rfl, rfl, L, hLs, ?_⟩, q1⟩, q2, q3⟩
  show rep ks L (unl (bk L) s.pg) L.length = rep ks L p L.length
  rw [unl_foldr, hLs, hist_back hL]
/-- What stands in a list of pages' headers. -/
def El (G : Nat → Prop) (Hk : List (Array Value)) (xk : List Value) (W : World) : Prop :=
  ∀ (j : Nat) (c : Array Value), Hk[j]? = some c → ∃ g cap, xk[j]? = some (.slice (some ⟨g, 0, none⟩) 64 cap) ∧ 64 ≤ cap ∧ G g ∧ ∃ cs, W.heap[g]? = some (.cells cs 5 (0, 0)) ∧ ∀ (i : Nat) (u : Value), c.toList[i]? = some u → cs[i]? = some u
/-- The lists H of pages, an array of eight in block x. -/
def ArrH (G : Nat → Prop) (B x : Nat) (H : Nat → List (Array Value)) (hs : Nat → Value) (xs : Nat → List Value) (W : World) : Prop :=
  W.heap[x]? = some (.cells ((List.range 8).map hs).toArray 45 (0, 0)) ∧ G x ∧
  (∀ k, k < 8 → W.ownsRow B 31 1 (hs k) (xs k).length (xs k) ∧ (∀ g, (hs k).ownBlock = some g → G g) ∧ (xs k).length = (H k).length ∧ El G (H k) (xs k) W) ∧
  ∀ k l g, k < 8 → l < 8 → k ≠ l → (hs k).ownBlock = some g → (hs l).ownBlock ≠ some g
theorem El.on {G G' : Nat → Prop} {Hk : List (Array Value)} {xk : List Value} {W W' : World} (h : El G Hk xk W) (hs : ∀ g cs, G g → W.heap[g]? = some (.cells cs 5 (0, 0)) → W'.heap[g]? = W.heap[g]?) (hG : ∀ k, G k → G' k) : El G' Hk xk W' := fun j c hc => by
  obtain ⟨g, cap, h1, h2, h3, cs, h4, h5⟩ := h j c hc
  exact ⟨g, cap, h1, h2, hG g h3, cs, (hs g cs h3 h4).trans h4, h5⟩
theorem own_on {W W' : World} {B e size k : Nat} {v : Value} {xs : List Value} (h : W.ownsRow B e size v k xs) (hs : ∀ g, v.ownBlock = some g → W'.heap[g]? = W.heap[g]?) : W'.ownsRow B e size v k xs := by
  refine ⟨h.1, ?_⟩
  rcases h.2 with h0 | ⟨g, cap, cur, e, e1, e2, e3⟩
  · exact .inl h0
  · exact .inr ⟨g, cap, cur, e, e1, (hs g (by rw [e]; rfl)).trans e2, e3⟩
theorem ArrH.on {G G' : Nat → Prop} {B x : Nat} {H : Nat → List (Array Value)} {hs : Nat → Value} {xs : Nat → List Value} {W W' : World} (h : ArrH G B x H hs xs W) (hS : Same G W W') (hG : ∀ k, G k → G' k) : ArrH G' B x H hs xs W' := by
  obtain ⟨h1, h2, h3, h4⟩ := h
  refine ⟨(hS x h2).trans h1, hG x h2, fun k hk => ?_, h4⟩
  obtain ⟨a1, a2, a3, a4⟩ := h3 k hk
  exact ⟨own_on a1 (fun g e => hS g (a2 g e)), fun g e => hG g (a2 g e), a3, a4.on (fun g _ hg _ => hS g hg) hG⟩
theorem map8_set (hs : Nat → Value) {k : Nat} (hk : k < 8) (v : Value) : ((List.range 8).map hs).toArray.setIfInBounds k v = ((List.range 8).map fun i => if i = k then v else hs i).toArray := by
  apply Array.ext_getElem?
  intro i
  rw [Array.getElem?_setIfInBounds]
  simp only [List.size_toArray, List.length_map, List.length_range, List.getElem?_toArray, List.getElem?_map]
  by_cases hi : i < 8
  · rw [List.getElem?_range hi]
    by_cases e : k = i
    · subst e; simp [hi]
    · simp [e, Ne.symm e]
  · have : (List.range 8)[i]? = none := by rw [List.getElem?_eq_none]; simpa using hi
    rw [this]
    by_cases e : k = i
    · omega
    · simp [e]
theorem arr_cell {G : Nat → Prop} {B x : Nat} {H : Nat → List (Array Value)} {hs : Nat → Value} {xs : Nat → List Value} {W : World} (h : ArrH G B x H hs xs W) {k : Nat} (hk : k < 8) : W.cell? ⟨x, k, none⟩ = some (hs k) := by
  rw [cell_of_row _ _ k _ 45 (0, 0) h.1]
  simp [List.getElem?_map, List.getElem?_range hk]
/-- The lists with a page more. -/
def more1 (H : Nat → List (Array Value)) (k : Nat) (c : Array Value) : Nat → List (Array Value) := fun i => if i = k then H k ++ [c] else H i
theorem arr_push {G : Nat → Prop} {B x : Nat} {H : Nat → List (Array Value)} {hs : Nat → Value} {xs : Nat → List Value} {W W' : World} (h : ArrH G B x H hs xs W) (hfit : ∀ k, G k → k < W.heap.size) {k : Nat} (hk : k < 8) {g cap q capq : Nat} {c : Array Value} {cs : Array Value} (hq : G q) (hcq : 64 ≤ capq) (hqc : W.heap[q]? = some (.cells cs 5 (0, 0))) (hcs : ∀ (i : Nat) (u : Value), c.toList[i]? = some u → cs[i]? = some u)
    (hown : W'.ownsRow B 31 1 (.slice (some ⟨g, 0, none⟩) ((xs k).length + 1) cap) ((xs k).length + 1) (xs k ++ [.slice (some ⟨q, 0, none⟩) 64 capq])) (hgr : W.grownBy W' (hs k).ownBlock) (hat : (hs k).ownBlock = some g ∨ g = W.heap.size) :
    ∃ hs' xs', ArrH (fun i => G i ∨ i = g) B x (more1 H k c) hs' xs' (W'.setCell ⟨x, k, none⟩ (.slice (some ⟨g, 0, none⟩) ((xs k).length + 1) cap)) ∧ (W'.setCell ⟨x, k, none⟩ (.slice (some ⟨g, 0, none⟩) ((xs k).length + 1) cap)).heap.size = W'.heap.size := by
  obtain ⟨h1, h2, h3, h4⟩ := h
  have hrow31 : ∀ l, l < 8 → ∀ b, (hs l).ownBlock = some b → ∀ (cs : Array Value) (t : TypeId) (f : Nat × Nat), W.heap[b]? = some (Obj.cells cs t f) → t = 31 := by
    intro l hl b e cs' t f hb
    rcases (h3 l hl).1.2 with ⟨h0, _⟩ | ⟨b', cap', cur, h0, _, hb', _⟩
    · rw [h0] at e; simp [Value.ownBlock] at e
    · rw [h0] at e
      have : b' = b := by simpa [Value.ownBlock] using e
      subst this
      rw [hb] at hb'
      cases hb'; rfl
  have hkeep : ∀ (b : Nat) (cs : Array Value) (t : TypeId) (f : Nat × Nat), W.heap[b]? = some (Obj.cells cs t f) → t ≠ 31 → W'.heap[b]? = W.heap[b]? := fun b cs' t f hb ht => hgr.block b (Array.getElem?_eq_some_iff.1 hb).1 (fun e => ht (hrow31 k hk b e.symm _ _ _ hb))
  have hkeepG : ∀ l, l < 8 → l ≠ k → ∀ b, (hs l).ownBlock = some b → W'.heap[b]? = W.heap[b]? := fun l hl hlk b e => hgr.block b (hfit b ((h3 l hl).2.1 b e)) (fun e' => h4 k l b hk hl (Ne.symm hlk) e'.symm e)
  have hx' : W'.heap[x]? = some (.cells ((List.range 8).map hs).toArray 45 (0, 0)) := (hkeep x _ 45 _ h1 (by decide)).trans h1
  have hgx : g ≠ x := by
    rintro rfl
    rcases hown.2 with ⟨h0, _⟩ | ⟨b', cap', cur, h0, _, hb', _⟩
    · cases h0
    · have : g = b' := by injection h0 with e; injection e with e; injection e
      subst this
      rw [hx'] at hb'; cases hb'
  have hset : ∀ b, b ≠ x → (W'.setCell ⟨x, k, none⟩ (.slice (some ⟨g, 0, none⟩) ((xs k).length + 1) cap)).heap[b]? = W'.heap[b]? := fun b hb => by
    show (W'.heap.modify x _)[b]? = _
    rw [Array.getElem?_modify, if_neg (Ne.symm hb)]
  refine ⟨fun i => if i = k then .slice (some ⟨g, 0, none⟩) ((xs k).length + 1) cap else hs i, fun i => if i = k then xs k ++ [.slice (some ⟨q, 0, none⟩) 64 capq] else xs i, ⟨?_, .inl h2, fun l hl => ?_, ?_⟩, by simp⟩
  · rw [set_block hx', map8_set hs hk]
  · by_cases e : l = k
    · subst e
      obtain ⟨a1, a2, a3, a4⟩ := h3 l hl
      simp only [if_true, more1]
      refine ⟨?_, fun b e => .inr (by simpa [Value.ownBlock] using e.symm), by simp [a3], fun j c' hj => ?_⟩
      · have := own_on hown (W' := W'.setCell ⟨x, l, none⟩ (.slice (some ⟨g, 0, none⟩) ((xs l).length + 1) cap)) (fun b e => by
          have e' : g = b := by simpa [Value.ownBlock] using e
          subst e'
          exact hset g hgx)
        simpa using this
      · by_cases hjl : j < (H l).length
        · rw [List.getElem?_append_left hjl] at hj
          obtain ⟨g', cap', b1, b2, b3, cs', b4, b5⟩ := a4 j c' hj
          refine ⟨g', cap', ?_, b2, .inl b3, cs', ?_, b5⟩
          · rw [List.getElem?_append_left (by omega)]; exact b1
          · rw [hset g' (by rintro rfl; rw [h1] at b4; cases b4), hkeep g' _ _ _ b4 (by decide)]; exact b4
        · rw [List.getElem?_append_right (by omega)] at hj
          have hj0 : j - (H l).length = 0 := by
            have := (List.getElem?_eq_some_iff.1 hj).1
            simp at this; omega
          rw [hj0] at hj
          simp only [List.getElem?_cons_zero, Option.some.injEq] at hj
          subst hj
          refine ⟨q, capq, ?_, hcq, .inl hq, cs, ?_, hcs⟩
          · rw [List.getElem?_append_right (by omega), show j - (xs l).length = 0 by omega]; rfl
          · rw [hset q (by rintro rfl; rw [h1] at hqc; cases hqc), hkeep q _ _ _ hqc (by decide)]; exact hqc
    · obtain ⟨a1, a2, a3, a4⟩ := h3 l hl
      simp only [if_neg e, more1]
      refine ⟨own_on a1 (fun b eb => ?_), fun b eb => .inl (a2 b eb), a3, a4.on (fun b cs' hb hbc => ?_) (fun _ h => .inl h)⟩
      · have hbx : b ≠ x := by
          rintro rfl
          have := hrow31 l hl b eb _ _ _ h1
          exact absurd this (by decide)
        rw [hset b hbx, hkeepG l hl e b eb]
      · rw [hset b (by rintro rfl; rw [h1] at hbc; cases hbc), hkeep b _ _ _ hbc (by decide)]
  · intro i j b hi hj hij e
    simp only at e ⊢
    have hnew : ∀ l, l < 8 → l ≠ k → (hs l).ownBlock ≠ some g := fun l hl hlk e' => by
      rcases hat with h | h
      · exact h4 k l g hk hl (Ne.symm hlk) h e'
      · have := hfit g ((h3 l hl).2.1 g e'); omega
    by_cases ei : i = k
    · rw [if_pos ei] at e
      have eb : g = b := by simpa [Value.ownBlock] using e
      rw [if_neg (by omega), ← eb]
      exact hnew j hj (by omega)
    · rw [if_neg ei] at e
      by_cases ej : j = k
      · rw [if_pos ej]
        intro e'
        have eb : g = b := by simpa [Value.ownBlock] using e'
        rw [← eb] at e
        exact hnew i hi ei e
      · rw [if_neg ej]
        exact h4 i j b hi hj hij e
theorem half_len {c : Array Value} (hc : IsPage c) {h : Nat} (hh : h = 0 ∨ h = 32) : (half h c).length = 32 := by
  have lc : c.toList.length = 64 := by rw [Array.length_toList]; exact hc.1
  simp only [half, List.length_take, List.length_drop]
  omega
theorem half_src {W : World} {p : Nat} {c : Array Value} (hc : IsPage c) (h : Nat) (hw : ∀ (j : Nat) (u : Value), c.toList[j]? = some u → W.cell? ⟨p, j, none⟩ = some u) : Src W (some ⟨p, h, none⟩) (half h c) := by
  refine ⟨fun _ => ⟨_, rfl, fun j v hv => ?_⟩, fun x hx => hc.2 x (List.mem_of_mem_drop (List.mem_of_mem_take hx))⟩
  rw [Go.WideShapes.add_plain]
  refine hw _ _ ?_
  simp only [half, List.getElem?_take, List.getElem?_drop] at hv
  split at hv
  · exact hv
  · cases hv
theorem page_cells {W : World} {p : Nat} {c : Array Value} {t : TypeId} (h : W.heap[p]? = some (.cells c t (0, 0))) : ∀ (j : Nat) (u : Value), c.toList[j]? = some u → W.cell? ⟨p, j, none⟩ = some u := fun j u hu => by
  rw [cell_of_row _ _ j c t (0, 0) h]
  simpa using hu
/-- Halves held against one another. -/
theorem same_halves {W : World} {p q : Nat} {c d : Array Value} (hc : IsPage c) (hd : IsPage d) {h : Nat} (hh : h = 0 ∨ h = 32) (hp : ∀ (j : Nat) (u : Value), c.toList[j]? = some u → W.cell? ⟨p, j, none⟩ = some u) (hq : ∀ (j : Nat) (u : Value), d.toList[j]? = some u → W.cell? ⟨q, j, none⟩ = some u) (cp cq : Nat) :
    Calls Try.prog 22 #[.slice (some ⟨p, h, none⟩) 32 cp, .slice (some ⟨q, h, none⟩) 32 cq] W fun e w' => e = .returned (.bool (decide (nums (half h c) = nums (half h d)))) ∧ Below W.heap.size W w' :=
  same_src _ _ 32 32 cp cq (half h c) (half h d) W (half_len hc hh) (half_len hd hh) (by unfold maxLen; omega) (half_src hc h hp) (half_src hd h hq)
end Go.Proofs.Ytjfbgihjgnbeeaa.Pl
