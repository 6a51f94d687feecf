/- commit: a list of nodes as a set, walked. -/
import Derived.Test.YtklalpamcfkngaaB3
namespace Go.Proofs.Ytklalpamcfkngaa.Cm
open Go Go.RowKit
def memF (L : List Int) : Nat → Bool := fun i => L.contains (i : Int)
def ag4 (f : Nat → Bool) : Value := .agg #[.bool (f 0), .bool (f 1), .bool (f 2), .bool (f 3)]
def sete (f : Nat → Bool) (e : Int) : Value := .tuple #[ag4 f, .int .i64 e]
def noF : Nat → Bool := fun _ => false
theorem bel2 (w : World) (o o' : Obj) : Below w.heap.size w ((w.alloc o).alloc o') := ((Below.refl _ w).alloc (Nat.le_refl _) _).alloc (by simp) _
theorem setOf_none (ao : Option Addr) (c : Nat) (w : World) : Calls Try.prog 35 #[.slice ao 0 c] w fun e w' => e = .returned (sete noF 1) ∧ Below w.heap.size w w' := by
  go_enter Try.func35, Try.ntmps35
  go_wp2
  exact bodyPost_ret (v := sete noF 1) (by simp [results, Try.results35, go_sem, sete, ag4, noF]) rfl ⟨rfl, bel2 _ _ _⟩
theorem setOf_many (ao : Option Addr) (n c : Nat) (w : World) (hn : 4 < n) : Calls Try.prog 35 #[.slice ao n c] w fun e w' => e = .returned (sete noF 1) ∧ Below w.heap.size w w' := by
  have h0 : ((n : Int) == 0) = false := by simp; omega
  go_enter Try.func35, Try.ntmps35
  go_wp2
  exact bodyPost_ret (v := sete noF 1) (by simp [results, Try.results35, go_sem, sete, ag4, noF]) rfl ⟨rfl, bel2 _ _ _⟩
theorem setOf_high (ao : Option Addr) (n c : Nat) (L : List Int) (w : World) (hL : L.length = n) (h0 : 0 < n) (hn : n ≤ 4) (hr : Rd w ao L) (hi : ∀ x ∈ L, 0 ≤ x ∧ x ≤ 255) (hm : 4 ≤ maxL L n) :
    Calls Try.prog 35 #[.slice ao n c] w fun e w' => e = .returned (sete noF 1) ∧ Below w.heap.size w w' := by
  have e0 : ((n : Int) == 0) = false := by simp; omega
  have HM := Lib.hid (And.intro hr (And.intro hi hL))
  obtain ⟨x, hx⟩ : ∃ x, maxL L n = x := ⟨_, rfl⟩
  rw [hx] at hm
  have HX := Lib.hid hx
  clear hL hr hi hx
  go_enter Try.func35, Try.ntmps35
  go_wp2_with (go_at_call 44; refine (max_any ao n c L _ HM.out.2.2 h0 (by omega) (HM.out.1.on (bel2 _ _ _) (Nat.le_refl _)) HM.out.2.1).mono ?_; rw [HX.out]; rintro e w1 ⟨rfl, rfl⟩)
  exact bodyPost_ret (v := sete noF 1) (by simp [results, Try.results35, go_sem, sete, ag4, noF]) rfl ⟨rfl, bel2 _ _ _⟩
theorem memF_nil : memF [] = noF := by funext i; simp [memF, noF]
theorem memF_snoc (L : List Int) (j : Nat) : memF (L ++ [(j : Int)]) = tru (memF L) j := by
  funext i
  unfold memF tru
  by_cases h : i = j
  · subst h; simp
  · have : (i : Int) ≠ (j : Int) := by omega
    simp [h, this]
/-- Between two rounds: the set of what has come, and nothing came twice. -/
def SoR (w : World) (L : List Int) (k : Nat) (wr : World) : Prop :=
  wr.heap[w.heap.size + 1]? = some (.cells #[.bool (memF (L.take k) 0), .bool (memF (L.take k) 1), .bool (memF (L.take k) 2), .bool (memF (L.take k) 3)] 75 (0, 0)) ∧ wr.heap[w.heap.size]? = some (.cells #[.bool false, .bool false, .bool false, .bool false] 75 (0, 0)) ∧ (L.take k).Nodup ∧ Below w.heap.size w wr
theorem four_cells {w : World} {b : Nat} {a c d e : Value} {T : TypeId} (h : w.heap[b]? = some (.cells #[a, c, d, e] T (0, 0))) : (w.cell? ⟨b, 0, none⟩ = some a ∧ w.cell? ⟨b, 1, none⟩ = some c ∧ w.cell? ⟨b, 2, none⟩ = some d ∧ w.cell? ⟨b, 3, none⟩ = some e) ∧ (w.frozen? ⟨b, 0, none⟩ = false ∧ w.frozen? ⟨b, 1, none⟩ = false ∧ w.frozen? ⟨b, 2, none⟩ = false ∧ w.frozen? ⟨b, 3, none⟩ = false) := by
  simp [World.cell?, World.frozen?, h]
theorem so_step {w wr : World} {L : List Int} {k j : Nat} (hr : SoR w L k wr) (ht : L.take (k + 1) = L.take k ++ [(j : Int)]) (hq : memF (L.take k) j = false) (hj : j < 4) : SoR w L (k + 1) (wr.setCell ⟨w.heap.size + 1, j, none⟩ (.bool true)) := by
  obtain ⟨M, hM⟩ : ∃ M, L.take k = M := ⟨_, rfl⟩
  unfold SoR at hr ⊢
  rw [ht]
  rw [hM] at hr hq ⊢
  rw [memF_snoc]
  refine ⟨(set_block hr.1).trans ?_, ?_, ?_, hr.2.2.2.setCell (by simp) _⟩
  · have : j = 0 ∨ j = 1 ∨ j = 2 ∨ j = 3 := by omega
    rcases this with rfl | rfl | rfl | rfl <;> simp [tru]
  · refine Eq.trans ?_ hr.2.1
    show (wr.heap.modify (w.heap.size + 1) _)[w.heap.size]? = _
    rw [Array.getElem?_modify, if_neg (by omega)]
  · rw [List.nodup_append]
    refine ⟨hr.2.2.1, by simp, fun y hy z hz => ?_⟩
    simp only [List.mem_singleton] at hz
    subst hz
    rintro rfl
    simp [memF] at hq
    exact hq hy
/-- The error of a list of nodes, none of which is too great. -/
def SoPost (w : World) (L : List Int) (e : Ending) (w' : World) : Prop :=
  ((L.Nodup ∧ e = .returned (sete (memF L) 0)) ∨ (¬ L.Nodup ∧ e = .returned (sete noF 3))) ∧ Below w.heap.size w w'
set_option maxRecDepth 100000 in
set_option maxHeartbeats 4000000 in
theorem setOf_in (ao : Option Addr) (n c : Nat) (L : List Int) (w : World) (hL : L.length = n) (h0 : 0 < n) (hn : n ≤ 4) (hr : Rd w ao L) (hi : ∀ x ∈ L, 0 ≤ x ∧ x ≤ 3) (hm : maxL L n < 4) :
    Calls Try.prog 35 #[.slice ao n c] w fun e w' => SoPost w L e w' := by
  have e0 : ((n : Int) == 0) = false := by simp; omega
  have HM := Lib.hid (And.intro hr (And.intro hi hL))
  obtain ⟨x, hx⟩ : ∃ x, maxL L n = x := ⟨_, rfl⟩
  rw [hx] at hm
  have HX := Lib.hid hx
  clear hL hr hi hx
  go_enter Try.func35, Try.ntmps35
  go_wp2_with (go_at_call 44; refine (max_any ao n c L _ HM.out.2.2 h0 (by omega) (HM.out.1.on (bel2 _ _ _) (Nat.le_refl _)) (fun x hx => by have := HM.out.2.1 x hx; omega)).mono ?_; rw [HX.out]; rintro e w1 ⟨rfl, rfl⟩)
  have H0 := Lib.hid (show SoR w L 0 ((w.alloc (.cells #[.bool false, .bool false, .bool false, .bool false] 75)).alloc (.cells #[.bool false, .bool false, .bool false, .bool false] 75)) from by
    refine ⟨?_, ?_, by simp, bel2 _ _ _⟩
    · have h := heap_alloc_new (w.alloc (.cells #[.bool false, .bool false, .bool false, .bool false] 75)) (.cells #[.bool false, .bool false, .bool false, .bool false] 75)
      rw [World.size_alloc] at h
      exact h
    · exact (heap_alloc_old _ _ (by simp)).trans (heap_alloc_new w _))
  generalize ((w.alloc (.cells #[.bool false, .bool false, .bool false, .bool false] 75)).alloc (.cells #[.bool false, .bool false, .bool false, .bool false] 75)) = W0 at H0 ⊢
  go_loopw [23] (fun i wr => ∃ k : Nat, k ≤ n ∧ i = .int .i64 k ∧ Hid (SoR w L k wr)) (fun i _ => n - (intOf i).toNat)
  case atStart => exact ⟨0, by omega, rfl, H0⟩
  case round =>
    obtain ⟨k, hk, rfl, HR⟩ := hrel
    clear H0
    by_cases hlt : k < n
    · obtain ⟨x, hx⟩ : ∃ x, L[k]? = some x := ⟨_, List.getElem?_eq_getElem (by have := HM.out.2.2; omega)⟩
      obtain ⟨b, off, rfl, _, ck⟩ := (HM.out.1.on HR.out.2.2.2 (Nat.le_refl _)) k x hx
      obtain ⟨x0, x3⟩ := HM.out.2.1 x (List.mem_of_getElem? hx)
      obtain ⟨j, rfl⟩ : ∃ j : Nat, x = j := ⟨x.toNat, by omega⟩
      have ht : L.take (k + 1) = L.take k ++ [(j : Int)] := by rw [List.take_add_one, hx]; rfl
      obtain ⟨M, hM⟩ : ∃ M, L.take k = M := ⟨_, rfl⟩
      rw [hM] at ht
      obtain ⟨⟨c0, c1, c2, c3⟩, f0, f1, f2, f3⟩ := four_cells HR.out.1
      obtain ⟨⟨r0, r1, r2, r3⟩, g0, g1, g2, g3⟩ := four_cells HR.out.2.1
      rw [hM] at c0 c1 c2 c3
      obtain ⟨q, hq⟩ : ∃ q, memF M j = q := ⟨_, rfl⟩
      have HT := Lib.hid (And.intro ht (And.intro hM hq))
      clear ht hM hx
      have : j = 0 ∨ j = 1 ∨ j = 2 ∨ j = 3 := by omega
      rcases this with rfl | rfl | rfl | rfl
      all_goals
        first | rw [hq] at c0 | rw [hq] at c1 | rw [hq] at c2 | rw [hq] at c3
        clear hq
        cases q
        · go_wp2
          go_roundw
          case rel => exact ⟨k + 1, by omega, by go_num, Lib.hid (so_step HR.out (by rw [HT.out.2.1]; exact HT.out.1) (by rw [HT.out.2.1]; exact HT.out.2.2) (by decide))⟩
          case measure => simp [intOf]; omega
        · go_wp2
          refine bodyPost_ret (v := sete noF 3) (by simp [results, Try.results35, go_sem, sete, ag4, noF, r0, r1, r2, r3]) rfl ⟨.inr ⟨fun hnd => ?_, rfl⟩, ?_⟩
          · obtain ⟨h1, h2, h3⟩ := HT.out
            have := hnd.sublist (List.take_sublist (k + 1) L)
            rw [h1, List.nodup_append] at this
            simp [memF] at h3
            exact this.2.2 _ h3 _ (by simp) rfl
          · exact (((HR.out.2.2.2.setCell (by simp) _).setCell (by simp) _).setCell (by simp) _).setCell (by simp) _
    · obtain rfl : k = n := by omega
      obtain ⟨⟨c0, c1, c2, c3⟩, f0, f1, f2, f3⟩ := four_cells HR.out.1
      obtain ⟨⟨r0, r1, r2, r3⟩, g0, g1, g2, g3⟩ := four_cells HR.out.2.1
      have hN := HR.out.2.2.1
      rw [List.take_of_length_le (by rw [HM.out.2.2]; exact Nat.le_refl _)] at hN c0 c1 c2 c3
      go_wp2
      refine bodyPost_ret (v := sete (memF L) 0) ?_ rfl ⟨.inl ⟨hN, rfl⟩, ?_⟩
      · simp [results, Try.results35, go_sem, sete, ag4, r0, r1, r2, r3]
      · exact (((HR.out.2.2.2.setCell (by simp) _).setCell (by simp) _).setCell (by simp) _).setCell (by simp) _
end Go.Proofs.Ytklalpamcfkngaa.Cm
