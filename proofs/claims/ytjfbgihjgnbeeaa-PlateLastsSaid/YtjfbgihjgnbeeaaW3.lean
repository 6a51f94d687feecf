/- plate: New, Arm, Flush, Read, walked. -/
import Derived.Test.YtjfbgihjgnbeeaaA2
import Derived.Deep.WholeRow
import Derived.Outline
namespace Go.Proofs.Ytjfbgihjgnbeeaa.Pl
open Go Go.RowKit
theorem lf_ok {l : Int} (h : 0 ≤ l ∧ l ≤ 9223372036854775807) : 0 ≤ Lf l ∧ Lf l ≤ 9223372036854775807 := by unfold Lf; split <;> omega
def st0 (N : Int) : PSt := ⟨N, fun _ => Zp, [], false, 0, 0⟩
theorem new_ok (N : Int) (w : World) (h0 : 1 ≤ N) (h1 : N ≤ 65536) :
    Calls Try.prog 9 #[.int .i64 N] w fun e w' => e = .returned (.tuple #[.pointer (some ⟨w.heap.size + 1, 0, none⟩), .int .i64 0]) ∧
      PlateAt w' w.heap.size (fun k => k = w.heap.size ∨ k = w.heap.size + 1) (w.heap.size + 1) 0 w.heap.size (.slice none 0 0) (st0 N) ∧ Below w.heap.size w w' := by
  have hmm := @run_makeMap Try.prog
  go_enter Try.func9, Try.ntmps9
  go_wp2
  go_ret2
  refine ⟨rfl, ?_, ((Below.refl _ _).alloc (Nat.le_refl _) _).alloc (by simp) _⟩
  have hm := MapIs.made w
  have e1 : (w.alloc (.map #[] 0)).heap.size = w.heap.size + 1 := by simp
  refine ⟨?_, hm.kept (World.grownBy_alloc _ _ none) (by simp), World.ownsRow_nil _ _ _ _, (fun t ht => by cases ht), (by simp; omega), .inr rfl, .inl rfl, (fun g hg => by simp [Value.ownBlock] at hg), (fun k hk => by rcases hk with rfl | rfl <;> omega), (fun k hk => by rcases hk with rfl | rfl <;> simp <;> omega), ⟨Int.le_refl 0, Int.le_of_lt (by simp [st0])⟩, ⟨Int.le_refl 0, (by simp [st0])⟩, ⟨h0, h1⟩⟩
  have := heap_alloc_new (w.alloc (.map #[] 0)) (.cells #[.int .i64 N, .map (some w.heap.size), .slice none 0 0, .bool false, .int .i64 0, .int .i64 0] 68)
  rwa [e1] at this
theorem arm_ok (b n bm : Nat) (B : Nat) (F : Nat → Prop) (v : Value) (s : PSt) (k : Int) (w : World) (h : PlateAt w B F b n bm v s) (hon : s.off = false) (k0 : 0 ≤ k) (k1 : k ≤ 9223372036854775807) :
    Calls Try.prog 17 #[.pointer (some ⟨b, 0, none⟩), .int .i64 k] w fun e w' => e = .returned (.int .i64 0) ∧ Did w B F b n bm { s with left := k } w' := by
  have hblk := h.blk
  rw [hon] at hblk
  obtain ⟨_, _, _, c3, c4, c5⟩ := cells6 hblk
  have f4 := free6 (i := 4) hblk
  have HB := Lib.hid hblk
  have H := Lib.hid h
  have HO := Lib.hid hon
  clear hblk h hon
  go_enter Try.func17, Try.ntmps17
  go_wp2_with (go_at_call 37; refine (ready_on _ _ c3).mono ?_; rintro e _ ⟨rfl, rfl⟩)
  go_ret
  refine ⟨rfl, H.out.did_again (grown_set _ _ _ _) (H.out.again (v' := v) (s' := { s with left := k }) (grown_set _ _ _ _) ?_ rfl rfl (.inl ⟨rfl, rfl⟩) ⟨k0, k1⟩ H.out.ob)⟩
  rw [set_block HB.out]
  simp [HO.out]
theorem arm_down (b : Nat) (k : Int) (w : World) (c3 : w.cell? ⟨b, 3, none⟩ = some (.bool true)) (k0 : 0 ≤ k) : Calls Try.prog 17 #[.pointer (some ⟨b, 0, none⟩), .int .i64 k] w fun e w' => e = .returned (.int .i64 11) ∧ w = w' := by
  go_enter Try.func17, Try.ntmps17
  go_wp2_with (go_at_call 37; refine (ready_off _ _ c3).mono ?_; rintro e _ ⟨rfl, rfl⟩)
  go_ret
  exact ⟨rfl, rfl⟩
theorem flush_down (b : Nat) (w : World) (c3 : w.cell? ⟨b, 3, none⟩ = some (.bool true)) : Calls Try.prog 18 #[.pointer (some ⟨b, 0, none⟩)] w fun e w' => e = .returned (.int .i64 11) ∧ w = w' := by
  go_enter Try.func18, Try.ntmps18
  go_wp2_with (go_at_call 37; refine (ready_off _ _ c3).mono ?_; rintro e _ ⟨rfl, rfl⟩)
  go_ret
  exact ⟨rfl, rfl⟩
def flushed (s : PSt) : PSt := if s.left = 1 then { s with off := true, left := 0, ops := s.ops + 1 } else { s with op := [], left := Lf s.left, ops := s.ops + 1 }
theorem flush_any (b n bm : Nat) (B : Nat) (F : Nat → Prop) (v : Value) (s : PSt) (w : World) (h : PlateAt w B F b n bm v s) (hon : s.off = false) (ho : s.ops < 4000000000000000000) :
    Calls Try.prog 18 #[.pointer (some ⟨b, 0, none⟩)] w fun e w' => e = .returned (.int .i64 (An s.left)) ∧ Did w B F b n bm (flushed s) w' := by
  have hblk := h.blk
  rw [hon] at hblk
  obtain ⟨_, _, _, c3, c4, c5⟩ := cells6 hblk
  have hcnt := count_any b _ _ _ s.left s.ops w hblk h.lb.1 h.lb.2 h.ob.1 h.ob.2
  have HC := Lib.hid hcnt
  have H := Lib.hid h
  have HO := Lib.hid hon
  have HS := Lib.hid ho
  clear hblk h hon hcnt ho
  by_cases hl : s.left = 1
  · have HL := Lib.hid hl
    have ea : An s.left = 11 := by simp [An, hl]
    have e1 : flushed s = { s with off := true, left := 0, ops := s.ops + 1 } := by simp [flushed, hl]
    rw [ea, e1]
    have HE := Lib.hid ea
    clear ea e1 hl
    go_enter Try.func18, Try.ntmps18
    go_wp2_with (first
      | (go_at_call 37; refine (ready_on _ _ c3).mono ?_; rintro e _ ⟨rfl, rfl⟩)
      | (go_at_call 39; refine HC.out.mono ?_; rintro e w1 ⟨rfl, hk, hg⟩; rw [HE.out]; have HK := Lib.hid hk; have HG := Lib.hid hg; clear hk hg))
    go_ret
    refine ⟨rfl, H.out.did_again HG.out (H.out.again (v' := v) (s' := { s with off := true, left := 0, ops := s.ops + 1 }) HG.out ?_ rfl rfl (.inl ⟨rfl, rfl⟩) ⟨Int.le_refl 0, (by simp)⟩ (by have := H.out.ob; have := HS.out; simp only; omega))⟩
    rw [HK.out, HL.out]; rfl
  · have HL := Lib.hid hl
    have ea : An s.left = 0 := by simp [An, hl]
    have e1 : flushed s = { s with op := [], left := Lf s.left, ops := s.ops + 1 } := by simp [flushed, hl]
    rw [ea, e1]
    have HE := Lib.hid ea
    clear ea e1 hl
    go_enter Try.func18, Try.ntmps18
    go_wp2_with (first
      | (go_at_call 37; refine (ready_on _ _ c3).mono ?_; rintro e _ ⟨rfl, rfl⟩)
      | (go_at_call 39; refine HC.out.mono ?_; rintro e w1 ⟨rfl, hk, hg⟩; rw [HE.out]; have HK := Lib.hid hk; have HG := Lib.hid hg; obtain ⟨_, _, q2, _⟩ := cells6 hk; have f2 := free6 (i := 2) hk; clear hk hg))
    go_ret
    have hg2 := HG.out.trans (grown_set w1 b 2 (.slice none 0 0))
    refine ⟨rfl, H.out.did_again hg2 (H.out.again (v' := .slice none 0 0) (s' := { s with op := [], left := Lf s.left, ops := s.ops + 1 }) hg2 ?_ rfl rfl (.inr ⟨rfl, rfl⟩) (lf_ok H.out.lb) (by have := H.out.ob; have := HS.out; simp only; omega))⟩
    rw [set_block HK.out]
    simp [Of, HL.out, HO.out]
theorem in64 {s : Int} (h0 : 0 ≤ s) (h1 : s < 9223372036854775807) : In64 s := by
  simp [In64, Lit.wf, IntKind.min, IntKind.max, IntKind.bits, IntKind.signed]; omega
theorem read_down (b : Nat) (N i : Int) (w : World) (c0 : w.cell? ⟨b, 0, none⟩ = some (.int .i64 N)) (c3 : w.cell? ⟨b, 3, none⟩ = some (.bool true)) (i0 : 0 ≤ i) (i1 : i < N) :
    Calls Try.prog 24 #[.pointer (some ⟨b, 0, none⟩), .int .i64 i] w fun e w' => e = .returned (.tuple #[.slice none 0 0, .int .i64 11]) ∧ w = w' := by
  go_enter Try.func24, Try.ntmps24
  go_wp2_with (first
    | (go_at_call 36; refine (has_yes _ _ _ _ c0 i0 i1).mono ?_; rintro e _ ⟨rfl, rfl⟩)
    | (go_at_call 37; refine (ready_off _ _ c3).mono ?_; rintro e _ ⟨rfl, rfl⟩))
  go_ret2
  exact ⟨rfl, rfl⟩
theorem read_ok (b n bm : Nat) (B : Nat) (F : Nat → Prop) (v : Value) (s : PSt) (i : Int) (w : World) (h : PlateAt w B F b n bm v s) (hon : s.off = false) (i0 : 0 ≤ i) (i1 : i < s.N) :
    Calls Try.prog 24 #[.pointer (some ⟨b, 0, none⟩), .int .i64 i] w fun e w' => e = .returned (.tuple #[.slice (some ⟨w.heap.size, 0, none⟩) 64 64, .int .i64 0]) ∧ w' = w.alloc (.cells (s.pg i) 82) := by
  have hblk := h.blk
  rw [hon] at hblk
  obtain ⟨c0, c1, _, c3, _, _⟩ := cells6 hblk
  have hi := in64 i0 (by have := h.nb; omega)
  have HM := Lib.hid h.map
  have HI := Lib.hid hi
  have HP : Hid (IsPage (s.pg i)) := Lib.hid (by obtain ⟨_, _, _, _, h4⟩ := h.map; exact h4 i)
  clear hblk h hon hi
  go_enter Try.func24, Try.ntmps24
  go_wp2_with (first
    | (go_at_call 36; refine (has_yes _ _ _ _ c0 i0 i1).mono ?_; rintro e _ ⟨rfl, rfl⟩)
    | (go_at_call 37; refine (ready_on _ _ c3).mono ?_; rintro e _ ⟨rfl, rfl⟩)
    | (refine wpList_value rfl (exec_look65 (x := .tmp 20) (y := .tmp 21) rfl rfl rfl HM.out HI.out) ?_)
    | (refine wpList_turns rfl (exec_alloc82 rfl _) ?_)
    | (refine wpList_store_row rfl 82 (.tmp 7) (.tmp 22) rfl w.heap.size (s.pg i) rfl rfl 82 Zp (heap_alloc_new w _) (by rw [HP.out.1]; exact size82) (by rw [HP.out.1, zp_page.1]) HP.out.one ?_; rw [World.setRow_alloc_new]))
  go_ret2
  exact ⟨rfl, rfl⟩
end Go.Proofs.Ytjfbgihjgnbeeaa.Pl
