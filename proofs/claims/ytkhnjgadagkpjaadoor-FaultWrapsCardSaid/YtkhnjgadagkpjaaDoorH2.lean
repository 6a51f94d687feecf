/- fault: the document's text of a chain, walked. -/
import Derived.Test.YtkhnjgadagkpjaaDoorH1
import Derived.Test.YtkhnjgadagkpjaaDoorG8
namespace Go.Proofs.YtkhnjgadagkpjaaDoor.Flt
open Go Go.RowKit Go.Stop Go.Shelf
/-- The first n of these links. -/
def lst (X : Nat → Int × Int) : Nat → List (Int × Int)
  | 0 => []
  | n + 1 => lst X n ++ [X n]
theorem lst_length (X : Nat → Int × Int) (n : Nat) : (lst X n).length = n := by
  induction n with
  | zero => rfl
  | succ n ih => simp [lst, ih]
def InR (l : Int × Int) : Prop := (-9223372036854775808 ≤ l.1 ∧ l.1 ≤ 9223372036854775807) ∧ (0 ≤ l.2 ∧ l.2 ≤ 4294967295)
theorem lst_mem {X : Nat → Int × Int} {n : Nat} {q : Int × Int} (h : q ∈ lst X n) : ∃ i, i < n ∧ q = X i := by
  induction n with
  | zero => simp [lst] at h
  | succ n ih =>
    rcases List.mem_append.1 h with h | h
    · obtain ⟨i, hi, e⟩ := ih h
      exact ⟨i, by omega, e⟩
    · exact ⟨n, by omega, List.mem_singleton.1 h⟩
theorem lst_size {X : Nat → Int × Int} {n : Nat} (h : ∀ i, i < n → InR (X i)) : (linksT (lst X n)).size ≤ 60 * n := by
  have := linksT_size (lst X n) (fun q hq => by
    obtain ⟨i, hi, rfl⟩ := lst_mem hq
    have := h i hi
    exact linkT_size _ this.1.1 this.1.2 this.2.1 this.2.2)
  rwa [lst_length] at this
set_option maxRecDepth 100000 in
set_option maxHeartbeats 4000000 in
theorem ref_text (ao : Option Addr) (n c : Nat) (X : Nat → Int × Int) (r : Int) (w : World) (hn : n ≤ 1000) (hA : At2 w ao X n) (hX : ∀ i, i < n → InR (X i)) (r0 : -9223372036854775808 ≤ r) (r1 : r ≤ 9223372036854775807) :
    Calls Tryd.prog 14 #[.agg #[.slice ao n c, .int .i64 r]] w fun e w' => e = .returned (.string (chainT (lst X n) r)) ∧ Below w.heap.size w w' := by
  have HA := Lib.hid hA
  have HX := Lib.hid hX
  have hnr := num_size r r0 r1
  have HR := Lib.hid (fun W => dec_num r r0 r1 W)
  unfold chainT
  generalize num r = nr at *
  clear hA hX
  go_enter Tryd.func14, Tryd.ntmps14
  go_wp2_with fail
  have hk := box_below w (.cells #[.slice ao n c, .int .i64 r] 24)
  have k1 : (w.alloc (.cells #[.slice ao n c, .int .i64 r] 24)).cell? ⟨w.heap.size, 1, none⟩ = some (.int .i64 r) := by rw [World.cell?_alloc_new]; rfl
  have zz : w.heap.size < (w.alloc (.cells #[.slice ao n c, .int .i64 r] 24)).heap.size := by simp
  generalize (w.alloc (.cells #[.slice ao n c, .int .i64 r] 24)) = w1 at *
  go_loopw [3, 9] (fun v i wr => ∃ j : Nat, j ≤ n ∧ i = .int .i64 j ∧ v = .string (linksT (lst X j)) ∧ Below w.heap.size w wr ∧ Below w1.heap.size w1 wr) (fun _ i _ => n - (intOf i).toNat)
  case atStart => exact ⟨0, Nat.zero_le _, rfl, rfl, hk, Below.refl _ _⟩
  case round =>
    obtain ⟨j, hj, rfl, rfl, hb, hb1⟩ := hrel
    have hsz := lst_size (X := X) (n := j) (fun i hi => HX.out i (by omega))
    by_cases hlt : j < n
    · obtain ⟨b, off, rfl, hbb, e0, e1⟩ := HA.out.on hb (Nat.le_refl _) j hlt
      have hin := HX.out j hlt
      have hsn : linksT (lst X (j + 1)) = linksT (lst X j) ++ linkT (X j) := linksT_snoc _ _
      obtain ⟨x0, hx0⟩ : ∃ z, z = (X j).1 := ⟨_, rfl⟩
      obtain ⟨x1, hx1⟩ : ∃ z, z = (X j).2 := ⟨_, rfl⟩
      have hXj : X j = (x0, x1) := by rw [hx0, hx1]
      rw [hXj] at e0 e1 hin hsn
      simp only at e0 e1
      unfold InR at hin
      simp only at hin
      have D0 := Lib.hid (fun W => dec_num x0 hin.1.1 hin.1.2 W)
      have D1 := Lib.hid (fun W => dec_num x1 (by omega) (by omega) W)
      have hwr : IntKind.i64.wrap x1 = x1 := by simp [IntKind.wrap, IntKind.bits, IntKind.signed]; omega
      have n0 := num_size x0 hin.1.1 hin.1.2
      have n1 := num_size x1 (by omega) (by omega)
      unfold linkT at hsn
      simp only at hsn
      generalize num x0 = nx at *
      generalize num x1 = ny at *
      have HS := Lib.hid hsn
      clear hx0 hx1 hXj hsn hin
      generalize linksT (lst X j) = s at *
      have m1 : ¬ 9223372036854775807 < 3 + nx.size := by omega
      have m2 : ¬ 9223372036854775807 < 3 + nx.size + 8 := by omega
      have m3 : ¬ 9223372036854775807 < 3 + nx.size + 8 + ny.size := by omega
      have m4 : ¬ 9223372036854775807 < 3 + nx.size + 8 + ny.size + 2 := by omega
      have m5 : ¬ 9223372036854775807 < s.size + (3 + nx.size + 8 + ny.size + 2) := by omega
      have HB := Lib.hid hb
      have HB1 := Lib.hid hb1
      clear hb hb1
      go_wp2_with fail
      have HB2 := Lib.hid (HB.out.alloc HB.out.size (.cells #[.int .i64 x0, .int .u32 x1] 42))
      have HB3 := Lib.hid (HB1.out.alloc HB1.out.size (.cells #[.int .i64 x0, .int .u32 x1] 42))
      have c0 : (wr.alloc (.cells #[.int .i64 x0, .int .u32 x1] 42)).cell? ⟨wr.heap.size, 0, none⟩ = some (.int .i64 x0) := by rw [World.cell?_alloc_new]; rfl
      have c1 : (wr.alloc (.cells #[.int .i64 x0, .int .u32 x1] 42)).cell? ⟨wr.heap.size, 1, none⟩ = some (.int .u32 x1) := by rw [World.cell?_alloc_new]; rfl
      generalize (wr.alloc (.cells #[.int .i64 x0, .int .u32 x1] 42)) = w2 at *
      generalize wr.heap.size = s5 at *
      go_region_held3 (fun w' => w'.cell? ⟨s5, 0, none⟩ = some (.int .i64 x0) ∧ w'.cell? ⟨s5, 1, none⟩ = some (.int .u32 x1))
        (exact ⟨c0, c1⟩)
        (first
          | (have hh := first1; clear hh; go_at_call 29; refine (D1.out _).mono ?_; rintro e w4 ⟨rfl, rfl⟩)
          | (go_at_call 29; refine (D0.out _).mono ?_; rintro e w4 ⟨rfl, rfl⟩; have first1 : Hid True := Lib.hid trivial))
      go_wp2_with fail
      go_roundw
      case rel => exact ⟨j + 1, by omega, by go_num, by rw [HS.out], HB2.out.drew, HB3.out.drew⟩
      case measure => simp [intOf]; omega
    · obtain rfl : n = j := by omega
      generalize hs : linksT (lst X n) = s at *
      have HS := Lib.hid hs
      clear hs
      have m1 : ¬ 9223372036854775807 < s.size + 6 := by omega
      have m2 : ¬ 9223372036854775807 < s.size + 6 + nr.size := by omega
      have k1' := (hb1.cell (p := ⟨w.heap.size, 1, none⟩) zz).trans k1
      have HB := Lib.hid hb
      clear hb hb1 hk k1
      go_wp2_with fail
      refine (HR.out _).mono ?_
      rintro e w4 ⟨rfl, rfl⟩
      go_wp2_with fail
      go_ret
      exact ⟨by rw [HS.out]; rfl, HB.out⟩
end Go.Proofs.YtkhnjgadagkpjaaDoor.Flt
