/- fault: what strconv says of every number, where its table of powers is as it was laid. -/
import Derived.Test.YtkhnjgadagkpjaaDoorG6
import Derived.Shelf.Strconv.Itoa3
import Derived.Lib.AppendIntMem
namespace Go.Proofs.YtkhnjgadagkpjaaDoor.Flt
open Go Go.RowKit Go.Stop Go.Shelf Go.Sort
def Pow (w : World) : Prop := Lib.TabIs Tryd.prog w "internal/strconv.uint64pow10" .u64 Lib.pow10Tab
theorem grown_below {w w' : World} (h : ∃ k os, w' = grow (w.drewN k) os) : Below w.heap.size w w' := by
  obtain ⟨k, os, rfl⟩ := h
  refine ⟨rfl, rfl, rfl, by simp [grow, World.drewN], fun i hi => ?_⟩
  show (w.heap ++ os)[i]? = _
  rw [Array.getElem?_append_left hi]
theorem saysI_any (w0 : World) (n : Int) (h0 : -9223372036854775808 ≤ n) (h1 : n ≤ 9223372036854775807) (hp : ∀ w, Below w0.heap.size w0 w → Pow w) : SaysI w0 n := fun w hw => by
  have hc := Any.strconv_Itoa Tryd.laysM171 n h0 h1 w (hp w hw)
  refine Calls.mono (show Calls Tryd.prog 25 _ _ _ from hc) ?_
  rintro e w' ⟨rfl, hg⟩
  exact ⟨rfl, grown_below hg⟩
theorem uint_any (u : Nat) (hu1 : 100 ≤ u) (hu64 : u < 18446744073709551616) (w : World) (htab : Pow w) :
    Calls Tryd.prog 42 #[.int .u64 u, .int .i64 10] w fun e w' => e = .returned (.string (num u)) ∧ ∃ k os, w' = grow (w.drewN k) os := by
  have hnd20 : Lib.nDigits u ≤ 20 := by have := Lib.numDigits_eq u (by omega) hu64; split at this <;> omega
  have hal : Tryd.prog.arrayLen 101 = 24 := by kernel_rfl
  have e : num (u : Int) = ⟨(Lib.decDigits u).toArray⟩ := by unfold num; rw [Lib.itoa_nonneg]
  rw [e]
  have hsl : ∀ W, (Instr.sliceAt 101 (.pointer (some ⟨w.heap.size, 0, none⟩)) none (some (.int .i64 (Lib.nDigits u : Int))) none).run Tryd.prog W = .ok (.slice (some ⟨w.heap.size, 0, none⟩) (Lib.nDigits u) 24) W := fun W => by
    rw [run_sliceAt_array_h W 101 ⟨w.heap.size, 0, none⟩ (by kernel_rfl) .i64 (Lib.nDigits u : Int) (by omega) (by rw [hal]; omega)]
    go_simp
  have hH0 := Lib.holds_zero0 w 101 (Lib.nDigits u) (by omega)
  have hfmt : Calls Tryd.prog 53 _ _ _ := Any.internal_strconv_formatBase10 Tryd.lays285 w.heap.size 0 24 u (Array.replicate (Lib.nDigits u) 0) (w.alloc (.cells Lib.zeros24 101)) hH0 (by rw [Array.size_replicate]; exact Lib.lt_pow_nDigits u) hu64 (by rw [Array.size_replicate]; omega)
  rw [Array.size_replicate] at hfmt
  have hnum : Calls Tryd.prog 52 _ _ _ := Any.internal_strconv_numDigits Tryd.laysM284 u (by omega) hu64 (w.alloc (.cells Lib.zeros24 101)) (Lib.tabIs_alloc htab _)
  have HH0 := Lib.hid hH0
  have HF := Lib.hid hfmt
  have HN := Lib.hid hnum
  have hlt : ¬ ((u : Int) < 100) := by omega
  clear hH0 hfmt hnum hal
  go_enter Tryd.func42, Tryd.ntmps42
  go_wp2_with fail
  refine HN.out.mono ?_
  rintro e w' ⟨rfl, rfl⟩
  go_wp2_with fail
  refine HF.out.mono ?_
  rintro e w' ⟨rfl, k, v', dk, rfl, hF⟩
  have hcv : (convert 57 9 (.slice (some ⟨w.heap.size, 0, none⟩) (Lib.nDigits u) 24)).run Tryd.prog ((putRow (fun (b : UInt8) => Value.int .u8 (b.toNat : Int)) (w.alloc (.cells Lib.zeros24 101)) w.heap.size 0 dk).drewN k) = .ok (.string ⟨(Lib.decDigits u).toArray⟩) ((putRow (fun (b : UInt8) => Value.int .u8 (b.toNat : Int)) (w.alloc (.cells Lib.zeros24 101)) w.heap.size 0 dk).drewN k) := by
    have h := run_convert_bytes_back (P := Tryd.prog) ((putRow (fun (b : UInt8) => Value.int .u8 (b.toNat : Int)) (w.alloc (.cells Lib.zeros24 101)) w.heap.size 0 dk).drewN k) 57 9 5 ⟨w.heap.size, 0, none⟩ 24 (Lib.decDigits u) Tryd.underlying57 Tryd.underlying5 Tryd.underlying9 (fun j hj => by
      rw [Lib.row_is_numeral hF j hj, Lib.add_plain, World.cell?_drewN]
      exact cell?_putRow (fun (b : UInt8) => Value.int .u8 (b.toNat : Int)) _ w.heap.size 0 _ dk HH0.out (by rw [hF.size, Array.size_replicate]) j (by rw [hF.size]; rw [Lib.decDigits_length] at hj; exact hj))
    rw [Lib.decDigits_length] at h
    exact h
  go_wp2
  go_ret
  refine ⟨rfl, ?_⟩
  rw [alloc_eq_grow]
  obtain ⟨os', _, e⟩ := putRow_grow_new (fun (b : UInt8) => Value.int .u8 (b.toNat : Int)) w #[.cells Lib.zeros24 101] w.heap.size 0 dk (Nat.le_refl _)
  exact ⟨k, os', by rw [e]; rfl⟩
theorem saysU_any (w0 : World) (u : Int) (h0 : 0 ≤ u) (h1 : u ≤ 18446744073709551615) (hp : ∀ w, Below w0.heap.size w0 w → Pow w) : SaysU w0 u := fun w hw => by
  obtain ⟨n, rfl⟩ : ∃ n : Nat, u = n := ⟨u.toNat, by omega⟩
  by_cases hn : n < 100
  · exact saysU_small w0 n hn w hw
  · have hc := uint_any n (by omega) (by omega) w (hp w hw)
    generalize num (n : Int) = s at *
    go_enter Tryd.func26, Tryd.ntmps26
    go_wp2_with fail
    refine hc.mono ?_
    rintro e w1 ⟨rfl, hg⟩
    have hb := grown_below hg
    clear hg
    go_wp2_with fail
    go_ret
    exact ⟨rfl, hb⟩
theorem told_any (w0 : World) (l : Int × Int) (h : (-9223372036854775808 ≤ l.1 ∧ l.1 ≤ 9223372036854775807) ∧ (0 ≤ l.2 ∧ l.2 ≤ 4294967295)) (hp : ∀ w, Below w0.heap.size w0 w → Pow w) : Told w0 l :=
  ⟨saysI_any w0 l.1 h.1.1 h.1.2 hp, saysU_any w0 l.2 h.2.1 (by omega) hp, h.1, h.2⟩
end Go.Proofs.YtkhnjgadagkpjaaDoor.Flt
