/- The sort of spans, out of the library's contract. -/
import Derived.Test.YtgbhdccadelcfaaT3
import Derived.Test.YtgbhdccadelcfaaShelf
import Derived.Shelf.SlSortCmp.WholeK
namespace Go.Proofs.Ytgbhdccadelcfaa.Sp
open Go Go.RowKit Go.Sort Go.Shelf
def encP (t : Int × Int) : List Value := [.int .u32 t.1, .int .u32 t.2]
def cfP (x y : Int × Int) : Int := if x.1 < y.1 then -1 else if y.1 < x.1 then 1 else 0
theorem ltP (x y : Int × Int) : ltOf cfP x y = decide (x.1 < y.1) := by
  unfold ltOf cfP
  by_cases h : x.1 < y.1
  · simp [h]
  · by_cases g : y.1 < x.1 <;> simp [h, g]
theorem swoP : SWO (ltOf cfP) := by
  refine ⟨fun x => ?_, fun x y z h1 h2 => ?_, fun x y z h1 h2 => ?_⟩
  · rw [ltP]; simp
  · rw [ltP, decide_eq_true_iff] at *; omega
  · rw [ltP, decide_eq_false_iff_not] at *; omega
theorem nan46 (x : Int) (w : World) : Calls Try.prog 46 #[.int .u32 x] w fun e w' => e = .returned (.bool false) ∧ w = w' := by
  go_enter Try.func46, Try.ntmps46
  go_wp2_with fail
  go_ret
  exact ⟨by simp, rfl⟩
theorem cmp37 (x y : Int) (w : World) : Calls Try.prog 37 #[.int .u32 x, .int .u32 y] w fun e w' => e = .returned (.int .i64 (cfP (x, 0) (y, 0))) ∧ w = w' := by
  unfold cfP
  go_enter Try.func37, Try.ntmps37
  by_cases h : x < y
  · have h1 : ¬ y < x := by omega
    simp only [h, if_true]
    go_wp2_with (first | (go_at_call 46; refine (nan46 _ _).mono ?_; rintro e _ ⟨rfl, rfl⟩))
    go_ret
    exact ⟨rfl, rfl⟩
  · by_cases g : y < x
    · simp only [h, g, if_true, if_false]
      go_wp2_with (first | (go_at_call 46; refine (nan46 _ _).mono ?_; rintro e _ ⟨rfl, rfl⟩))
      go_ret
      exact ⟨rfl, rfl⟩
    · simp only [h, g, if_false]
      go_wp2_with (first | (go_at_call 46; refine (nan46 _ _).mono ?_; rintro e _ ⟨rfl, rfl⟩))
      go_ret
      exact ⟨rfl, rfl⟩
theorem of36 (x y : Int × Int) (w : World) : Calls Try.prog 36 #[.agg (encP x).toArray, .agg (encP y).toArray] w fun e w' => e = .returned (.int .i64 (cfP x y)) ∧ ∃ q os', w' = Go.Sort.grow (w.drewN q) os' := by
  obtain ⟨x1, x2⟩ := x
  obtain ⟨y1, y2⟩ := y
  have ez : cfP (x1, x2) (y1, y2) = cfP (x1, 0) (y1, 0) := rfl
  rw [ez]
  unfold encP
  go_enter Try.func36, Try.ntmps36
  go_wp2_with (go_at_call 37; refine (cmp37 _ _ _).mono ?_; rintro e _ ⟨rfl, rfl⟩)
  go_ret
  exact ⟨rfl, 0, #[.cells #[.int .u32 x1, .int .u32 x2] 46, .cells #[.int .u32 y1, .int .u32 y2] 46], by rw [alloc_eq_grow, alloc_eq_grow, grow_grow]; rfl⟩
theorem flB {L : SL} {j : Nat} (h : j < L.length * 2) : (fl L)[j]? = some (flatK encP 2 L.toArray)[j]! := by
  rw [get_flatK _ _ _ _ (by simpa using h)]
  obtain ⟨t, ht⟩ : ∃ t, L[j / 2]? = some t := ⟨_, List.getElem?_eq_getElem (by omega)⟩
  have hb : L.toArray[j / 2]! = t := by
    rw [getElem!_pos _ _ (by simp; omega)]
    simpa using (List.getElem?_eq_some_iff.1 ht).2
  rw [hb]
  have ha := fl_at ht
  rcases Nat.mod_two_eq_zero_or_one j with h0 | h0
  · have e : j = j / 2 * 2 := by omega
    rw [h0]
    conv => lhs; rw [e]
    rw [ha.1]; rfl
  · have e : j = j / 2 * 2 + 1 := by omega
    rw [h0]
    conv => lhs; rw [e]
    rw [ha.2]; rfl
/-- A row of the call's own, as the sort wants it. -/
theorem own_holds {w : World} {B e g n cap : Nat} {L : SL} (hn : L.length = n) (h : w.ownsRow B e 2 (.slice (some ⟨g, 0, none⟩) n cap) n (fl L)) : HoldsK encP 2 w g 0 L.toArray := by
  intro j hj
  rw [size_flatK] at hj
  have hj' : j < L.length * 2 := by simpa using hj
  rw [Nat.zero_add]
  exact ⟨(h.cellAt j (by omega)).trans (flB hj'), h.frozenAt j⟩
/-- .. and back. -/
theorem rd_of_holds {w : World} {g : Nat} {L : SL} (hg : g < w.heap.size) (h : HoldsK encP 2 w g 0 L.toArray) : Rd2 w (some ⟨g, 0, none⟩) L := by
  intro i t ht
  have hi := (List.getElem?_eq_some_iff.1 ht).1
  have ha := fl_at ht
  refine ⟨g, 0, rfl, hg, ?_, ?_⟩
  · obtain ⟨h1, _⟩ := h (i * 2) (by rw [size_flatK]; simp; omega)
    rw [h1, ← ha.1, flB (by omega)]; rfl
  · obtain ⟨h1, _⟩ := h (i * 2 + 1) (by rw [size_flatK]; simp; omega)
    rw [show 0 + i * 2 + 1 = 0 + (i * 2 + 1) by omega, h1, ← ha.2, flB (by omega)]; rfl
theorem one_cellsP (x : Int × Int) : ∀ u ∈ encP x, u.oneCell' = true := by
  intro u hu
  simp [encP] at hu
  rcases hu with rfl | rfl <;> rfl
theorem below_grown {B : Nat} {a w w' : World} (h : Below B a w) (hB : B ≤ w.heap.size) (hg : ∃ q os', w' = Go.Sort.grow (w.drewN q) os') : Below B a w' := by
  obtain ⟨q, os', rfl⟩ := hg
  refine ⟨h.os, h.tape, h.output, Nat.le_trans h.size (by simp [Go.Sort.grow, World.drewN]), fun k hk => ?_⟩
  rw [← h.block k hk]
  show (w.heap ++ os')[k]? = _
  rw [Array.getElem?_append_left (by omega)]
theorem sort_own {w0 w : World} {B g n cap : Nat} {L : SL} (hn : L.length = n) (hb : Below B w0 w) (hB : B ≤ w.heap.size) (hm : n ≤ 100000) (h : w.ownsRow B 46 2 (.slice (some ⟨g, 0, none⟩) n cap) n (fl L)) :
    Calls Try.prog 44 #[.slice (some ⟨g, 0, none⟩) n cap, .func (.func 36) #[] #[]] w fun e w' => e = .returned (.tuple #[]) ∧ ∃ L', L'.Perm L ∧ Rd2 w' (some ⟨g, 0, none⟩) L' ∧ Below B w0 w' := by
  have eg : ∀ args w, (callFunc 36 args).run Try.prog w = .ok (.enter 36 args) w := enters_of Try.func36 (by kernel_rfl) rfl
  have hg := World.ownsRow.lt h g rfl
  have hH := own_holds hn h
  have hcon := AnyQ.slices_SortFunc Try.sortQ 2 Try.isAgg46 Try.sizeOf46 encP (fun _ => rfl) one_cellsP cfP swoP 36 #[] g 0 cap L.toArray w eg (fun _ _ _ _ x y => of36 x y _) hH hg.2 (by simp; omega)
  rw [show L.toArray.size = n by simp [hn]] at hcon
  refine hcon.mono ?_
  rintro e w' ⟨rfl, d, q, os, ⟨hs, _, hp⟩, _, rfl⟩
  have hds : d.size = n := by rw [hs]; simp [hn]
  have hp' : d.toList.Perm L := by
    have e1 : (d.extract 0 n).toList = d.toList := by rw [← hds, Array.extract_size]
    have e2 : (L.toArray.extract 0 n).toList = L := by rw [show n = L.toArray.size by simp [hn], Array.extract_size]
    rw [e1, e2] at hp
    exact hp
  have h1 := holdsK_sortWorldK encP 2 w g 0 q L.toArray d os hg.2 hH hs
  have h2 : g < (sortWorldK encP 2 w g 0 q d os).heap.size := lt_sortWorldK encP 2 w g 0 q _ os hg.2
  have h3 : Below B w0 (sortWorldK encP 2 w g 0 q d os) := by
    unfold sortWorldK
    exact below_grown (Lib.below_putRow hb hg.1) (by simp [putRow, mapBlock, Sort.ahead]; exact hB) ⟨0, os, rfl⟩
  exact ⟨rfl, d.toList, hp', rd_of_holds h2 (by simpa using h1), h3⟩
end Go.Proofs.Ytgbhdccadelcfaa.Sp
