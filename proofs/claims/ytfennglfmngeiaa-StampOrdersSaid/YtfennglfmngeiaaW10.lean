/- Clone, walked; the rows that are sorted. -/
import Derived.Test.YtfennglfmngeiaaW9
import Derived.WalkSpells
import Derived.Deep.DeepAppendWide
import Derived.Shelf.GgSortFunc.RowK
namespace Go.Proofs.Ytfennglfmngeiaa.St
open Go Go.RowKit Go.Sort
theorem app_any {ops : Array Oper} {rest : List Oper} {o : Oper} {a : Act} {Q' : Exit → Act → World → Prop} (w : World) (hg : o.guard = none) (s x : Operand)
    (hop : o.op = Op.call { callee := Callee.builtin Builtin.append, args := #[s, x], argTypes := #[41, 41] })
    (base g n cap : Nat) (L R : List Q) (hs : a.eval s = .slice (some ⟨g, 0, none⟩) n cap) (hown : w.ownsRow base 39 4 (.slice (some ⟨g, 0, none⟩) n cap) n (flat L))
    (ad : Addr) (m c : Nat) (hx : a.eval x = .slice (some ad) m c) (hR : R.length = m) (hrd : Qs w (some ad) R) (h63 : n + m ≤ 1000) (hbase : base ≤ w.heap.size)
    (hK : ∀ g' c' w', w'.ownsRow base 39 4 (.slice (some ⟨g', 0, none⟩) (n + m) c') (n + m) (flat L ++ flat R) → w.grownBy w' (some g) → wpList Try.prog ops Q' rest (a.put o.dst (.slice (some ⟨g', 0, none⟩) (n + m) c')) w') :
    wpList Try.prog ops Q' (o :: rest) a w := by
  obtain ⟨i0, hi, hz0, hz1, hz2⟩ := info_parts' info39
  by_cases h0 : m = 0
  · subst h0
    obtain rfl : R = [] := List.length_eq_zero_iff.1 hR
    refine wpList_append_fits_any w hg s x 41 hop base 39 i0 4 Try.underlying41 hi hz1 g n cap (flat L) hs hown (some ad) 0 c [] hx rfl (fun h => nomatch h) (fun ad _ j u hu => by simp at hu) (by simp) (by have := own_cap hown; omega) ?_
    intro w' ho hgr
    exact hK g cap w' (by simpa [flat] using ho) hgr
  · have hcell : ∀ j u, (flat R)[j]? = some u → w.cell? (ad.add j) = some u := fun j u hu => by
      have hj : j < R.length * 4 := by
        rw [← flat_length]; exact (List.getElem?_eq_some_iff.1 hu).1
      obtain ⟨b, off, h1, _, _, h2⟩ := hrd (j / 4) (by omega)
      cases h1
      have h3 := h2 (j % 4) (by omega)
      rw [← flat_get R (j / 4) (j % 4) (by omega) (by omega), show off + j / 4 * 4 + j % 4 = off + j by omega, show j / 4 * 4 + j % 4 = j by omega, hu] at h3
      rw [Go.WideShapes.add_plain]
      exact h3
    refine wpList_append_lies w hg s x 41 hop base 39 i0 _ 4 24 Try.underlying41 hi hz0 hz1 hz2 rfl (by decide) _ n (flat L) hs hown ad m c (flat R) hx (by rw [flat_length, hR]) hcell (flat_cells R) (by omega) (by unfold maxLen; omega) (by omega) hbase w.heap.size rfl ?_
    intro g' c' w' ho hgr _ _
    exact hK g' c' w' ho hgr
theorem lit_row (w : World) : (w.alloc (.cells #[] 39)).ownsRow w.heap.size 39 4 (.slice (some ⟨w.heap.size, 0, none⟩) 0 0) 0 (flat []) := by
  have h := World.ownsRow_lit (base := w.heap.size) (e := 39) (size := 4) w #[] 0 (Nat.le_refl _) (Nat.zero_le _) rfl
  exact h
theorem clone_any (b off n c : Nat) (l : List Q) (w : World) (hn : n ≤ 1000) (hl : l.length = n) (ha : Qs w (some ⟨b, off, none⟩) l) :
    Calls Try.prog 27 #[.slice (some ⟨b, off, none⟩) n c] w fun e w' => ∃ g cap, e = .returned (.slice (some ⟨g, 0, none⟩) n cap) ∧ Own w' w.heap.size 39 (.slice (some ⟨g, 0, none⟩) n cap) l ∧ Below w.heap.size w w' := by
  have HA := Lib.hid (ha.on ((Below.refl w.heap.size w).alloc (Nat.le_refl _) (.cells #[] 39)) (Nat.le_refl _))
  have HL := Lib.hid hl
  clear ha hl
  have hnil := fun w => Lib.run_eql_slice_nil (P := Try.prog) w 41 39 (some ⟨b, off, none⟩) n c 0 0 Try.underlying41
  go_enter Try.func27, Try.ntmps27
  go_wp2_with (at_builtin; refine app_any _ rfl (.tmp 5) (.tmp 6) rfl w.heap.size w.heap.size 0 0 [] l rfl (lit_row w) ⟨b, off, none⟩ n c rfl HL.out HA.out (by omega) (by simp) ?_; intro g3 c3 w3 hown3 hgrow3)
  have hB : Below w.heap.size w w3 := grown_own ((Below.refl w.heap.size w).alloc (Nat.le_refl _) (.cells #[] 39)) (lit_row w) hgrow3 (by simp)
  go_ret
  exact ⟨g3, c3, by simp, by rw [show l = [] ++ l from rfl, ← Nat.zero_add n]; exact Own.put hown3 rfl HL.out rfl, hB⟩
instance : Inhabited Q := ⟨q0⟩
theorem Own.cells {w : World} {B e g n cap : Nat} {l : List Q} (h : Own w B e (.slice (some ⟨g, 0, none⟩) n cap) l) : n = l.length ∧ ∀ j, j < l.length * 4 → w.cell? ⟨g, j, none⟩ = (flat l)[j]? ∧ w.frozen? ⟨g, j, none⟩ = false := by
  unfold Own at h
  have hn : n = l.length := by
    rcases h.2 with ⟨h1, _⟩ | ⟨_, _, _, h1, _⟩
    · cases h1
    · cases h1; rfl
  subst hn
  exact ⟨rfl, fun j hj => ⟨h.cellAt j hj, h.frozenAt j⟩⟩
theorem getB {l : List Q} {i : Nat} (h : i < l.length) : l.toArray[i]! = l.getD i q0 := by
  rw [getElem!_pos _ i (by simpa using h), List.getD_eq_getElem?_getD, List.getElem?_eq_getElem h]; rfl
theorem encB {x : Q} {j : Nat} (h : j < 4) : (encQ x)[j]? = some (encQ x)[j]! := by
  rw [getElem!_pos _ j (by simpa [encQ] using h), List.getElem?_eq_getElem]
theorem flatB {l : List Q} {j : Nat} (h : j < l.length * 4) : (flat l)[j]? = some (flatK encQ 4 l.toArray)[j]! := by
  rw [get_flatK _ _ _ _ (by simpa using h), getB (by omega), ← encB (by omega), ← flat_get l (j / 4) (j % 4) (by omega) (by omega)]
  congr 1; omega
/-- A row of the call's own, as the sort wants it. -/
theorem Own.holds {w : World} {B g n cap : Nat} {l : List Q} (h : Own w B 39 (.slice (some ⟨g, 0, none⟩) n cap) l) : HoldsK encQ 4 w g 0 l.toArray := by
  intro j hj
  rw [size_flatK] at hj
  have hj' : j < l.length * 4 := by simpa using hj
  obtain ⟨h1, h2⟩ := h.cells.2 j hj'
  rw [Nat.zero_add]
  exact ⟨h1.trans (flatB hj'), h2⟩
/-- .. and back. -/
theorem qs_of_holds {w : World} {g : Nat} {l : List Q} (hg : g < w.heap.size) (h : HoldsK encQ 4 w g 0 l.toArray) : Qs w (some ⟨g, 0, none⟩) l := by
  intro i hi
  refine ⟨g, 0, rfl, hg, rfl, fun j hj => ?_⟩
  have hk : i * 4 + j < l.length * 4 := by omega
  obtain ⟨h1, _⟩ := h (i * 4 + j) (by rw [size_flatK]; simpa using hk)
  rw [Nat.zero_add] at h1
  rw [← flat_get l i j hi hj, Nat.zero_add, h1, flatB hk]; rfl
end Go.Proofs.Ytfennglfmngeiaa.St
