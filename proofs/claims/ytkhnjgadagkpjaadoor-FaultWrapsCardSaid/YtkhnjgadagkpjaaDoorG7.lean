/- fault: the document's first example, walked. -/
import Derived.Test.YtkhnjgadagkpjaaDoorG6
namespace Go.Proofs.YtkhnjgadagkpjaaDoor.Flt
open Go Go.RowKit Go.Stop Go.Shelf
theorem awake_text : chainT [(0, 9), (2, 7)] 6 = { data := #[111, 112, 32, 48, 32, 118, 101, 114, 116, 101, 120, 32, 57, 58, 32, 111, 112, 32, 50, 32, 118, 101, 114, 116, 101, 120, 32, 55, 58, 32, 101, 114, 114, 111, 114, 32, 54] } := by decide +kernel
theorem chain_wrap {w : World} {u : Value} {L : List (Int × Int)} {r : Int} (h : Chain w u L r) (op v : Int) :
    Chain (w.alloc (.cells #[.int .i64 op, .int .u32 v, u] 55)) (.iface 48 (.pointer (some ⟨w.heap.size, 0, none⟩))) ((op, v) :: L) r :=
  ⟨w.heap.size, u, rfl, World.alloc_heap_new w _, h.on ((Below.refl w.heap.size w).alloc (Nat.le_refl _) _) (Nat.le_refl _)⟩
theorem told_small (w0 : World) (i j : Nat) (hi : i < 100) (hj : j < 100) : Told w0 ((i : Int), (j : Int)) := ⟨saysI_small w0 i hi, saysU_small w0 j hj, by simp; omega, by simp; omega⟩
set_option maxHeartbeats 2000000 in
theorem awake_any (w : World) (hg : ErrT w) : Calls Tryd.prog 6 #[] w fun e w' => e = .returned (.bool true) ∧ Below w.heap.size w w' := by
  have HG := Lib.hid hg
  clear hg
  go_enter Tryd.func6, Tryd.ntmps6
  go_wp2_with fail
  refine (new_ok 6 2 7 _ rfl).mono ?_
  rintro e w1 ⟨rfl, rfl⟩
  go_wp2_with fail
  refine (wrap_any 48 _ 0 9 _).mono ?_
  rintro e w1 ⟨rfl, rfl⟩
  have hC := chain_wrap (chain_wrap (show Chain w (.iface 30 (.int .i64 6)) [] 6 from rfl) 2 7) 0 9
  have hB : Below w.heap.size w ((w.alloc (.cells #[.int .i64 2, .int .u32 7, .iface 30 (.int .i64 6)] 55)).alloc (.cells #[.int .i64 0, .int .u32 9, .iface 48 (.pointer (some ⟨w.heap.size, 0, none⟩))] 55)) := ((Below.refl _ w).alloc (Nat.le_refl _) _).alloc (by simp) _
  have hG := HG.out.on hB
  rw [World.size_alloc] at hC
  simp only [World.size_alloc]
  generalize ((w.alloc (.cells #[.int .i64 2, .int .u32 7, .iface 30 (.int .i64 6)] 55)).alloc (.cells #[.int .i64 0, .int .u32 9, .iface 48 (.pointer (some ⟨w.heap.size, 0, none⟩))] 55)) = w2 at *
  have HT := Lib.hid (text_any _ [(0, 9), (2, 7)] 6 w2 hC (by decide) (by
    intro l hl
    rcases List.mem_cons.1 hl with rfl | hl
    · exact told_small w2 0 9 (by decide) (by decide)
    · rw [List.mem_singleton.1 hl]; exact told_small w2 2 7 (by decide) (by decide)) (saysI_small w2 6 (by decide)) (by decide) (by decide) hG)
  rw [awake_text] at HT
  have HC := Lib.hid hC
  have HB := Lib.hid hB
  clear hC hB hG
  go_wp2_with fail
  refine HT.out.mono ?_
  rintro e w3 ⟨rfl, hb⟩
  have HC3 := Lib.hid (HC.out.on hb (Nat.le_refl _))
  have HB3 := Lib.hid (HB.out.trans (hb.mono HB.out.size))
  clear hb
  go_wp2_with fail
  refine (is_chain _ _ 6 6 _ HC3.out rfl).mono ?_
  rintro e w4 ⟨rfl, hb⟩
  have HC4 := Lib.hid (HC3.out.on hb (Nat.le_refl _))
  have HB4 := Lib.hid (HB3.out.trans (hb.mono HB3.out.size))
  clear hb
  go_wp2_with fail
  refine (is_chain _ _ 6 10 _ HC4.out rfl).mono ?_
  rintro e w5 ⟨rfl, hb⟩
  have HB5 := Lib.hid (HB4.out.trans (hb.mono HB4.out.size))
  clear hb
  go_wp2_with fail
  go_ret
  exact ⟨rfl, HB5.out⟩
end Go.Proofs.YtkhnjgadagkpjaaDoor.Flt
