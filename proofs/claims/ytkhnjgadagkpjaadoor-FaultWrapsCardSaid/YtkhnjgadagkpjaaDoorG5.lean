/- fault: the text's callback, walked. -/
import Derived.Test.YtkhnjgadagkpjaaDoorG4
import Derived.Deep.RegionHeld3
namespace Go.Proofs.YtkhnjgadagkpjaaDoor.Flt
open Go Go.RowKit Go.Stop Go.Shelf
theorem size_app (a b : ByteArray) : (a ++ b).size = a.size + b.size := ByteArray.size_append
set_option maxRecDepth 100000 in
set_option maxHeartbeats 2000000 in
theorem tell_text (p b : Nat) (x y : Int) (u : Value) (s : ByteArray) (w0 w : World) (hp : w.heap[p]? = some (.cells #[.int .i64 x, .int .u32 y, u] 55 (0, 0))) (hpb : p < b) (h : Bld b s w) (hi : SaysI w0 x) (hu : SaysU w0 y) (hw : Below w0.heap.size w0 w) (hb0 : w0.heap.size ≤ w.heap.size)
    (h0 : (num x).size ≤ 21) (h1 : (num y).size ≤ 21) (hs : s.size ≤ 1000000) (y0 : 0 ≤ y) (y1 : y ≤ 4294967295) :
    Calls Tryd.prog 23 #[.pointer (some ⟨p, 0, none⟩), .pointer (some ⟨b, 0, none⟩)] w fun e w' => e = .returned (.tuple #[]) ∧ Bld b (s ++ linkT (x, y)) w' ∧ Below b w w' := by
  obtain ⟨c0, c1, _⟩ := cells3 hp
  have hpl : p < w.heap.size := World.block_lt_of_cell? w ⟨p, 0, none⟩ c0
  have hwr : IntKind.u64.wrap y = y := by simp [IntKind.wrap, IntKind.bits, IntKind.signed]; omega
  unfold SaysI at hi
  unfold SaysU at hu
  have HI := Lib.hid hi
  have HU := Lib.hid hu
  have HB := Lib.hid h
  have HW := Lib.hid hw
  unfold linkT
  simp only
  generalize num x = nx at *
  generalize num y = ny at *
  have s3 : ({ data := #[111, 112, 32] } : ByteArray).size = 3 := rfl
  have s8 : ({ data := #[32, 118, 101, 114, 116, 101, 120, 32] } : ByteArray).size = 8 := rfl
  have s2 : ({ data := #[58, 32] } : ByteArray).size = 2 := rfl
  have z1 := size_app { data := #[111, 112, 32] } nx
  have z2 := size_app ({ data := #[111, 112, 32] } ++ nx) { data := #[32, 118, 101, 114, 116, 101, 120, 32] }
  have z3 := size_app ({ data := #[111, 112, 32] } ++ nx ++ { data := #[32, 118, 101, 114, 116, 101, 120, 32] }) ny
  have z4 := size_app ({ data := #[111, 112, 32] } ++ nx ++ { data := #[32, 118, 101, 114, 116, 101, 120, 32] } ++ ny) { data := #[58, 32] }
  have m1 : ¬ 9223372036854775807 < 3 + nx.size := by omega
  have m2 : ¬ 9223372036854775807 < 3 + nx.size + 8 := by omega
  have m3 : ¬ 9223372036854775807 < 3 + nx.size + 8 + ny.size := by omega
  have m4 : ¬ 9223372036854775807 < 3 + nx.size + 8 + ny.size + 2 := by omega
  have Z := Lib.hid (show s.size + ({ data := #[111, 112, 32] } ++ nx ++ { data := #[32, 118, 101, 114, 116, 101, 120, 32] } ++ ny ++ { data := #[58, 32] } : ByteArray).size ≤ 140737488355328 by omega)
  clear z1 z2 z3 z4 s3 s8 s2
  clear hi hu h hw hp
  go_enter Tryd.func23, Tryd.ntmps23
  go_wp2_with fail
  go_region_held3 (fun w' => w'.cell? ⟨p, 0, none⟩ = some (.int .i64 x) ∧ w'.cell? ⟨p, 1, none⟩ = some (.int .u32 y))
    (first | exact ⟨c0, c1⟩ | exact ⟨e0, e1⟩ | exact ⟨f0, f1⟩ | exact ⟨g0, g1⟩)
    (first
      | (go_at_call 24; refine (write_string b s _ _ HB2 Z.out).mono ?_; rintro e x3 ⟨rfl, hB3, b3⟩; have g0 := (b3.cell (p := ⟨p, 0, none⟩) hpb).trans f0; have g1 := (b3.cell (p := ⟨p, 1, none⟩) hpb).trans f1)
      | (go_at_call 26; refine (HU.out _ (HW1.out)).mono ?_; rintro e x2 ⟨rfl, b2⟩; have HB2 := HB1.on b2; have f0 := (b2.cell (p := ⟨p, 0, none⟩) hp1).trans e0; have f1 := (b2.cell (p := ⟨p, 1, none⟩) hp1).trans e1)
      | (go_at_call 25; refine (HI.out _ (HW.out.drew)).mono ?_; rintro e x1 ⟨rfl, b1⟩; have HB1 := (Bld.on (w' := w.drew) HB.out (Below.refl _ _).drew).on b1; have e0 := (b1.cell (p := ⟨p, 0, none⟩) hpl).trans c0; have e1 := (b1.cell (p := ⟨p, 1, none⟩) hpl).trans c1; have HW1 := Lib.hid (HW.out.drew.trans (b1.mono hb0)); have hp1 : p < x1.heap.size := Nat.lt_of_lt_of_le hpl b1.size))
  go_end0
  exact ⟨rfl, hB3, ((((Below.refl b w).drew).trans (b1.mono (Nat.le_of_lt HB.out.lt))).trans (b2.mono (Nat.le_of_lt HB1.lt))).trans b3⟩
end Go.Proofs.YtkhnjgadagkpjaaDoor.Flt
