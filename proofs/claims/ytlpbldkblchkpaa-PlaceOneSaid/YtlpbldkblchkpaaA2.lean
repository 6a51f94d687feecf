/- place: New, walked. -/
import Derived.Test.YtlpbldkblchkpaaA1
namespace Go.Proofs.Ytlpbldkblchkpaa.Pl
open Go Go.RowKit
def zeroE : Nat → Ent := fun _ => (0, 0, 0)
/-- Where a vertex is at first. -/
def home (n : Int) : Nat → Ent := fun v => ((v : Int) + 1, ((v : Int) + 1) % n, 0)
def upto (k : Nat) (n : Int) : Nat → Ent := fun v => if v < k then home n v else (0, 0, 0)
theorem upto_all (n : Int) : rows (upto 40 n) = rows (home n) := by
  apply List.ext_getElem?
  intro j
  by_cases hj : j < 40
  · rw [rows_at _ hj, rows_at _ hj]; simp [upto, hj]
  · rw [List.getElem?_eq_none (by rw [rows_len]; omega), List.getElem?_eq_none (by rw [rows_len]; omega)]
theorem upto_next (k : Nat) (n : Int) : put (upto k n) k (home n k) = upto (k + 1) n := by
  funext v
  unfold put upto
  by_cases e : v = k
  · subst e; simp
  · have : v < k + 1 ↔ v < k := by omega
    simp [e, this]
def NewI (w : World) (n : Int) (k : Nat) (wr : World) : Prop := wr.heap.size = w.heap.size + 1 ∧ DirAt wr w.heap.size n (upto k n) ∧ Below w.heap.size w wr
/-- An empty directory's cells. -/
def zc45 : Array Value := (dirL 0 (fun _ => (0, 0, 0))).toArray
set_option maxRecDepth 100000 in
theorem zero45 (w : World) : (zeroValue 45).run Try.prog w = .ok (.agg zc45) w := by kernel_rfl
theorem zc45_ne : (zc45 = #[]) = False := by
  apply eq_false
  intro h
  have := congrArg Array.size h
  simp [zc45, dirL] at this
theorem zc45_set (n : Int) : zc45.setIfInBounds 0 (.int .i64 n) = (dirL n (upto 0 n)).toArray := by
  unfold zc45 dirL
  simp only [List.setIfInBounds_toArray, List.set_cons_zero]
  rfl
theorem new_start (w : World) (n : Int) : NewI w n 0 (w.alloc (.cells (zc45.setIfInBounds 0 (.int .i64 n)) 45)) := by
  refine ⟨by simp, ?_, (Below.refl _ w).alloc (Nat.le_refl _) _⟩
  unfold DirAt
  rw [zc45_set]
  exact heap_alloc_new _ _
theorem new_step {w wr : World} {n : Int} {k : Nat} (h : NewI w n k wr) (hk : k < 40) : NewI w n (k + 1) (((wr.setCell ⟨w.heap.size, 1 + k * 3, none⟩ (.int .u32 ((k : Int) + 1))).setCell ⟨w.heap.size, 1 + k * 3 + 1, none⟩ (.int .u8 (((k : Int) + 1) % n))).setCell ⟨w.heap.size, 1 + k * 3 + 2, none⟩ (.int .u32 0)) := by
  obtain ⟨h1, h2, h3⟩ := h
  refine ⟨by simpa using h1, ?_, ((h3.setCell (Nat.le_refl _) _).setCell (Nat.le_refl _) _).setCell (Nat.le_refl _) _⟩
  have := h2.put3 hk (home n k)
  rwa [upto_next] at this
theorem NewI.drew {w wr : World} {n : Int} {k : Nat} (h : NewI w n k wr) : NewI w n k wr.drew := ⟨h.1, h.2.1, h.2.2.drew⟩
theorem new_bad (n : Int) (w : World) (h : n < 1 ∨ 4 < n) : Calls Try.prog 7 #[.int .i64 n] w fun e w' => e = .returned (.tuple #[.pointer none, .int .i64 1]) ∧ w = w' := by
  by_cases h1 : n < 1
  · go_enter Try.func7, Try.ntmps7
    go_wp2
    go_ret2
    exact ⟨rfl, rfl⟩
  · have h4 : 4 < n := by omega
    go_enter Try.func7, Try.ntmps7
    go_wp2
    go_ret2
    exact ⟨rfl, rfl⟩
set_option maxRecDepth 100000 in
set_option maxHeartbeats 8000000 in
theorem new_any (n : Int) (w : World) (h1 : 1 ≤ n) (h4 : n ≤ 4) : Calls Try.prog 7 #[.int .i64 n] w fun e w' => e = .returned (.tuple #[.pointer (some ⟨w.heap.size, 0, none⟩), .int .i64 0]) ∧ DirAt w' w.heap.size n (home n) ∧ w'.heap.size = w.heap.size + 1 ∧ Below w.heap.size w w' := by
  have H0 := Lib.hid (new_start w n)
  have hz := zero45
  have hne := zc45_ne
  go_enter Try.func7, Try.ntmps7
  go_upto_region 4 with fail
  generalize w.alloc (.cells (zc45.setIfInBounds 0 (.int .i64 n)) 45) = W at H0 ⊢
  go_wp2_with fail
  go_loopw [16] (fun iv wr => ∃ k : Nat, k ≤ 40 ∧ iv = .int .i64 k ∧ Hid (NewI w n k wr)) (fun i _ => 40 - (intOf i).toNat)
  case atStart => exact ⟨0, by omega, rfl, H0⟩
  case round =>
    obtain ⟨k, hk, rfl, HR⟩ := hrel
    clear H0
    by_cases hlt : k < 40
    · have hi : (k : Int) < 40 := by omega
      have HN := Lib.hid (new_step HR.out hlt)
      have hf : ∀ j, wr.frozen? ⟨w.heap.size, j, none⟩ = false := HR.out.2.1.free
      obtain ⟨c0, c1, c2⟩ := HR.out.2.1.cell hlt
      have hn0 : ¬ n = 0 := by omega
      have e1 : IntKind.u32.wrap ((k : Int) + 1) = (k : Int) + 1 := by simp [IntKind.wrap, IntKind.bits, IntKind.signed]; omega
      have e2 : ((k : Int) + 1) % n % 256 = ((k : Int) + 1) % n := by
        have := Int.emod_lt_of_pos ((k : Int) + 1) (b := n) (by omega)
        have := Int.emod_nonneg ((k : Int) + 1) (show n ≠ 0 by omega)
        omega
      have E2 := Lib.hid e2
      clear e2
      go_wp2_with fail
      go_region
      go_wp2_with fail
      go_roundw
      case rel => exact ⟨k + 1, by omega, by go_num, by rw [E2.out]; exact Lib.hid HN.out.drew⟩
      case measure => simp [intOf]; omega
    · obtain rfl : k = 40 := by omega
      go_wp2_with fail
      go_ret2
      refine ⟨rfl, ?_, HR.out.1, HR.out.2.2⟩
      have := HR.out.2.1
      unfold DirAt dirL at this ⊢
      rwa [upto_all] at this
end Go.Proofs.Ytlpbldkblchkpaa.Pl
