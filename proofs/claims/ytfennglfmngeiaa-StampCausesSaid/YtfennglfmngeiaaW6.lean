/- The law on causes, walked. -/
import Derived.Test.YtfennglfmngeiaaW5
import Derived.Test.YtfennglfmngeiaaRow
import Derived.Deep.AppendLies
import Derived.OwnWalk
import Derived.IntWalk
namespace Go.Proofs.Ytfennglfmngeiaa.St
open Go Go.RowKit Go.Sort
theorem info25 : (Try.prog.info? 25).map (fun i => (i.zero, i.size, i.bytes)) = some (some (.pointer none), 1, 8) := by kernel_rfl
theorem made_row (n : Nat) : madeCells #[Value.pointer none] n = Array.replicate n (.pointer none) := by
  apply Array.toList_inj.1
  rw [toList_madeCells_one, Array.toList_replicate]
theorem info_parts {P : Program} {t : TypeId} {z : Value} {s b : Nat} (h : (P.info? t).map (fun i => (i.zero, i.size, i.bytes)) = some (some z, s, b)) : ∃ i, P.info? t = some i ∧ i.zero = some z ∧ i.size = s ∧ i.bytes = b := by
  obtain ⟨i, h1, h2⟩ := Option.map_eq_some_iff.1 h
  simp only [Prod.mk.injEq] at h2
  exact ⟨i, h1, h2.1, h2.2.1, h2.2.2⟩
theorem make_row (n : Nat) (h5 : n ≤ 5) (w : World) :
    (Instr.makeSlice 51 (.int .i64 n) (.int .i64 n)).run Try.prog w = .ok (.slice (some ⟨w.heap.size, 0, none⟩) n n) (w.alloc (.cells (Array.replicate n (.pointer none)) 25)) := by
  obtain ⟨i, hi, hz, hs, hb⟩ := info_parts info25
  have h := run_make (P := Try.prog) w 51 25 i _ Try.underlying51 hi hz .i64 .i64 n n (by omega) (Int.le_refl _) (by rw [hb]; omega) (by omega)
  rw [hs, Int.toNat_natCast, Nat.mul_one] at h
  exact h.trans (by rw [show (Value.pointer none).cells = #[Value.pointer none] from rfl, made_row])
/-- Clocks that are being made: j of n are there. -/
structure Mk (w : World) (X n j : Nat) : Prop where
  box : w.cell? ⟨X + 1, 0, none⟩ = some (.slice (some ⟨X, 0, none⟩) n n)
  ptr : ∀ i, i < j → w.cell? ⟨X, i, none⟩ = some (.pointer (some ⟨X + 2 + i, 0, none⟩))
  nil : ∀ i, j ≤ i → i < n → w.cell? ⟨X, i, none⟩ = some (.pointer none)
  fz : ∀ i, w.frozen? ⟨X, i, none⟩ = false
  num : ∀ i, i < j → w.cell? ⟨X + 2 + i, 0, none⟩ = some (.int .u64 0) ∧ w.frozen? ⟨X + 2 + i, 0, none⟩ = false
  size : w.heap.size = X + 2 + j
theorem Mk.done {w : World} {X n : Nat} (h : Mk w X n n) : Clk w X n 0 :=
  ⟨h.box, h.ptr, fun i hi => ⟨0, Int.le_refl _, Int.le_refl _, h.num i hi⟩, Nat.le_of_eq h.size.symm⟩
theorem Mk.step {w w2 : World} {X n j : Nat} (h : Mk w X n j) (hb : Below w.heap.size w w2) (hz : w2.heap.size = w.heap.size + 1) (hc : w2.cell? ⟨X + 2 + j, 0, none⟩ = some (.int .u64 0)) (hf : w2.frozen? ⟨X + 2 + j, 0, none⟩ = false) (hj : j < n) :
    Mk (w2.setCell ⟨X, j, none⟩ (.pointer (some ⟨X + 2 + j, 0, none⟩))) X n (j + 1) := by
  have hs := h.size
  refine ⟨cell_set ((hb.cell (p := ⟨X + 1, 0, none⟩) (by simp; omega)).trans h.box) (by omega), fun i hi => ?_, fun i hi hn => ?_, fun i => ?_, fun i hi => ?_, by rw [World.size_setCell, hz, hs]; omega⟩
  · by_cases e : i = j
    · subst e
      exact World.cell?_setCell_same _ _ _ ((hb.cell (p := ⟨X, i, none⟩) (by simp; omega)).trans (h.nil i (Nat.le_refl _) hj))
    · exact (World.cell?_setCell_other _ _ _ _ (by intro e2; cases e2; exact e rfl)).trans ((hb.cell (p := ⟨X, i, none⟩) (by simp; omega)).trans (h.ptr i (by omega)))
  · exact (World.cell?_setCell_other _ _ _ _ (by intro e2; cases e2; omega)).trans ((hb.cell (p := ⟨X, i, none⟩) (by simp; omega)).trans (h.nil i (by omega) hn))
  · exact (World.frozen?_setCell _ _ _ _).trans ((hb.frozen (p := ⟨X, i, none⟩) (by simp; omega)).trans (h.fz i))
  · by_cases e : i = j
    · subst e
      exact ⟨cell_set hc (by omega), (World.frozen?_setCell _ _ _ _).trans hf⟩
    · obtain ⟨h1, h2⟩ := h.num i (by omega)
      exact ⟨cell_set ((hb.cell (p := ⟨X + 2 + i, 0, none⟩) (by simp; omega)).trans h1) (by omega), (World.frozen?_setCell _ _ _ _).trans ((hb.frozen (p := ⟨X + 2 + i, 0, none⟩) (by simp; omega)).trans h2)⟩
theorem Mk.drew {w : World} {X n j : Nat} (h : Mk w X n j) : Mk w.drew X n j := ⟨h.box, h.ptr, h.nil, h.fz, h.num, h.size⟩
theorem Mk.start (w : World) (n : Nat) : Mk ((w.alloc (.cells (Array.replicate n (.pointer none)) 25)).alloc (.cells #[.slice (some ⟨w.heap.size, 0, none⟩) n n] 51)) w.heap.size n 0 := by
  refine ⟨by simp, fun i hi => absurd hi (by omega), fun i _ hi => ?_, fun i => by simp, fun i hi => absurd hi (by omega), by simp⟩
  refine (World.cell?_alloc_past _ _ i (by simp)).trans ?_
  rw [World.cell?_alloc_new, Array.getElem?_replicate, if_pos hi]
theorem below_drewN {B : Nat} {w w' : World} (h : Below B w w') (n : Nat) : Below B w (w'.drewN n) := ⟨h.os, h.tape, h.output, h.size, h.block⟩
theorem info54 : (Try.prog.info? 54).map (fun i => (i.zero, i.size, i.bytes)) = some (some (.agg #[.int .i64 0, .int .u64 0]), 2, 16) := by kernel_rfl
theorem two_new (a c : Int) (w : World) (T : TypeId) : ∀ j u, ([.int .i64 a, .int .u64 c] : List Value)[j]? = some u → ((w.alloc (.cells #[.int .i64 a, .int .u64 c] T)).alloc (.cells #[.int .i64 a, .int .u64 c] T)).cell? ((⟨w.heap.size + 1, 0, none⟩ : Addr).add j) = some u := by
  intro j u h
  match j, h with
  | 0, h => simp at h; subst h; simp [Addr.add, go_sem]
  | 1, h => simp at h; subst h; simp [Addr.add, go_sem]
  | j + 2, h => simp at h
theorem two_one (a c : Int) : ∀ u ∈ ([.int .i64 a, .int .u64 c] : List Value), u.oneCell' = true := by
  intro u hu
  simp at hu
  rcases hu with rfl | rfl <;> rfl
theorem two_alloc (w : World) (o p : Obj) : Below w.heap.size w ((w.alloc o).alloc p) := ((Below.refl _ _).alloc (Nat.le_refl _) _).alloc (by simp) _
theorem grown_none {w w' : World} (h : w.grownBy w' (Value.ownBlock (.slice none 0 0))) : Below w.heap.size w w' := (Below.refl _ _).grown h (Nat.le_refl _) (fun k hk => by simp [Value.ownBlock] at hk)
/-- What is late: nothing, or one message. -/
def Late (w : World) (X n : Nat) (M : Int) (v : Value) : Prop :=
  v = .slice none 0 0 ∨ ∃ (a cap to : Nat) (s : Int), v = .slice (some ⟨a, 0, none⟩) 1 cap ∧ X + 2 + n ≤ a ∧ a < w.heap.size ∧ w.cell? ⟨a, 0, none⟩ = some (.int .i64 to) ∧ w.cell? ⟨a, 1, none⟩ = some (.int .u64 s) ∧ to < n ∧ 0 ≤ s ∧ s ≤ M
theorem Late.on {w w' : World} {X n : Nat} {M M' : Int} {v : Value} (h : Late w X n M v) (hf : Fr X n w w') (hM : M ≤ M') : Late w' X n M' v := by
  rcases h with h | ⟨a, cap, to, s, h1, h2, h3, h4, h5, h6, h7, h8⟩
  · exact .inl h
  · exact .inr ⟨a, cap, to, s, h1, h2, Nat.lt_of_lt_of_le h3 hf.size, (hf.cell a 0 h3 (.inr h2)).trans h4, (hf.cell a 1 h3 (.inr h2)).trans h5, h6, h7, by omega⟩
theorem late_new {w2 w : World} {X n g cap to : Nat} {u M : Int} (h : w.ownsRow w2.heap.size 54 2 (.slice (some ⟨g, 0, none⟩) (0 + 1) cap) (0 + 1) ([] ++ [.int .i64 to, .int .u64 u])) (hs : X + 2 + n ≤ w2.heap.size) (hlt : g < w.heap.size) (ht : to < n) (u0 : 0 ≤ u) (u1 : u ≤ M) :
    Late w X n M (.slice (some ⟨g, 0, none⟩) 1 cap) :=
  .inr ⟨g, cap, to, u, rfl, Nat.le_trans hs (World.ownsRow.lt h g rfl).1, hlt, h.cellAt 0 (by decide), h.cellAt 1 (by decide), ht, u0, u1⟩
set_option maxRecDepth 100000 in
set_option maxHeartbeats 4000000 in
theorem causes (q : Int) (ao : Option Addr) (m c : Nat) (D : Nat → List Value) (w : World) (q0 : 0 ≤ q) (q1 : q ≤ 255) (_hm : m ≤ maxLen) (ha : Rq w ao 3 D m)
    (hd : ∀ k, k < m → ∃ x y z, D k = [.int .u8 x, .int .u8 y, .bool z] ∧ 0 ≤ x ∧ x ≤ 255 ∧ 0 ≤ y ∧ y ≤ 255) :
    Calls Try.prog 5 #[.int .u8 q, .slice ao m c] w fun e w' => e = .returned (.bool true) ∧ Below w.heap.size w w' := by
  unfold maxLen at _hm
  obtain ⟨n, hn, n1, n5⟩ : ∃ n : Nat, 1 + q % 5 = n ∧ 1 ≤ n ∧ n ≤ 5 := ⟨(1 + q % 5).toNat, by omega, by omega, by omega⟩
  obtain ⟨i0, hi0, hz0, hz1, hz2⟩ := info_parts info54
  have HA := Lib.hid ha
  have HD := Lib.hid hd
  clear ha hd
  have hmk := make_row n n5
  go_enter Try.func5, Try.ntmps5
  go_wp2_with fail
  refine (awake_any _).mono ?_
  rintro e w1 ⟨rfl, hB1⟩
  have hs1 := hB1.size
  have HX := Lib.hid hs1
  go_wp2_with fail
  clear hmk hn
  go_loopw [30] (fun i wr => ∃ j : Nat, j ≤ n ∧ i = .int .i64 j ∧ Mk wr w1.heap.size n j ∧ Below w.heap.size w wr) (fun i _ => n - (intOf i).toNat)
  case atStart => exact ⟨0, Nat.zero_le _, rfl, Mk.start w1 n, (hB1.alloc hs1 _).alloc (by simp; omega) _⟩
  case round =>
    obtain ⟨j, hj, rfl, hm, hB⟩ := hrel
    clear hB1
    by_cases hlt : j < n
    · have hb := hm.box
      have hp := hm.nil j (Nat.le_refl _) hlt
      have hf := hm.fz j
      have hz := hm.size
      have HM := Lib.hid hm
      have HB := Lib.hid hB
      have hb1 := fun o => cell_old hb (o := o)
      have hp1 := fun o => cell_old hp (o := o)
      have hf1 := fun o => frozen_old hf (o := o) (by omega)
      clear hm hB
      go_wp2_with fail
      go_region_held3 (fun w' => w'.cell? ⟨w1.heap.size + 1, 0, none⟩ = some (.slice (some ⟨w1.heap.size, 0, none⟩) n n))
        (first | exact hb | exact hb1 _ | exact cell_set (hb1 _) (by omega))
        ((go_at_call 8; refine (new_clock _).mono ?_; rintro e w2 ⟨rfl, rfl⟩))
      go_wp2_with fail
      go_roundw
      case rel => 
        have hA := (Below.refl wr.heap.size wr).alloc (Nat.le_refl _) (.cells #[.int .u64 0] 60)
        refine ⟨j + 1, by omega, by go_num, (HM.out.step hA (by simp) ?_ ?_ hlt).drew, ?_⟩
        · rw [← hz]; exact World.cell?_alloc_new _ _ _ _
        · rw [← hz]; simp
        · exact ((HB.out.alloc (HB.out.size) _).setCell (p := ⟨w1.heap.size, j, none⟩) hs1 _).drew
      case measure => simp [intOf]; omega
    · obtain rfl : n = j := by omega
      have hc := hm.done
      clear hm
      clear hs1
      have hc0 : Late wr w1.heap.size n 0 (.slice none 0 0) := .inl rfl
      have hX : w.heap.size ≤ w1.heap.size := by have := HX.out; exact this
      generalize w1.heap.size = X at *
      go_wp2_with fail
      generalize wr = wo at *
      go_loopw [8, 41] (fun l i wr => ∃ j : Nat, j ≤ m ∧ j ≤ 150 ∧ i = .int .i64 j ∧ Clk wr X n (3 * j) ∧ Late wr X n (3 * j) l ∧ Below w.heap.size w wr) (fun _ i _ => m - (intOf i).toNat)
      case atStart => exact ⟨0, Nat.zero_le _, Nat.zero_le _, rfl, by simpa using hc, by simpa using hc0, hB⟩
      case round =>
        obtain ⟨j, hj, hj2, rfl, hcl, hla, hB2⟩ := hrel
        clear hc hc0 hB
        by_cases hlt : j < m
        · obtain ⟨b, off, rfl, hb0, hl, hk⟩ := HA.out.on hB2 (Nat.le_refl _) j hlt
          obtain ⟨x, y, z, hD, x0, x1, y0, y1⟩ := HD.out j hlt
          rw [hD] at hk
          have e0 : wr.cell? ⟨b, off + j * 3, none⟩ = some (.int .u8 x) := hk 0 (by decide)
          have e1 : wr.cell? ⟨b, off + j * 3 + 1, none⟩ = some (.int .u8 y) := hk 1 (by decide)
          have e2 : wr.cell? ⟨b, off + j * 3 + 2, none⟩ = some (.bool z) := hk 2 (by decide)
          clear hk hl
          by_cases h150 : 150 ≤ j
          · go_wp2_with fail
            go_ret
            exact ⟨rfl, hB2.alloc (by have := hB2.size; omega) _⟩
          · rcases hla with rfl | ⟨a, cap, to, s, rfl, t1, p2, p3, p4, t3, t4, t5⟩
            · go_wp2_with fail
              go_quiet (fail)
              obtain ⟨f, hf, hfn⟩ : ∃ f : Nat, x % (n : Int) = f ∧ f < n := ⟨(x % n).toNat, (Int.toNat_of_nonneg (Int.emod_nonneg _ (by omega))).symm, by have := Int.emod_lt_of_pos x (show (0 : Int) < n by omega); have := Int.emod_nonneg x (show (n : Int) ≠ 0 by omega); omega⟩
              obtain ⟨g, hg, hgn⟩ : ∃ f : Nat, y % (n : Int) = f ∧ f < n := ⟨(y % n).toNat, (Int.toNat_of_nonneg (Int.emod_nonneg _ (by omega))).symm, by have := Int.emod_lt_of_pos y (show (0 : Int) < n by omega); have := Int.emod_nonneg y (show (n : Int) ≠ 0 by omega); omega⟩
              rw [hf, hg]
              clear hf hg e0 e1 e2
              have hA : Below wr.heap.size wr ((wr.alloc (.cells #[.int .u8 x, .int .u8 y, .bool z] 57)).drewN nq) := below_drewN ((Below.refl _ _).alloc (Nat.le_refl _) _) _
              have hE : wr.heap.size < ((wr.alloc (.cells #[.int .u8 x, .int .u8 y, .bool z] 57)).drewN nq).heap.size := by simp
              have d2 : ((wr.alloc (.cells #[.int .u8 x, .int .u8 y, .bool z] 57)).drewN nq).cell? ⟨wr.heap.size, 2, none⟩ = some (.bool z) := by simp
              generalize (wr.alloc (.cells #[.int .u8 x, .int .u8 y, .bool z] 57)).drewN nq = w1' at *
              have hC1 := hcl.on hA (Nat.le_refl _) (Int.le_refl _)
              have hBw : Below w.heap.size w w1' := hB2.trans (hA.mono hB2.size)
              have hXE : X + 2 + n ≤ wr.heap.size := hcl.size

              generalize wr.heap.size = E at *
              clear hA hcl hB2
              obtain ⟨s1, v0, v1, v2, v3⟩ := hC1.num f hfn
              have b1 := hC1.box
              have b2 := hC1.ptr f hfn
              obtain ⟨n1', n2', n3'⟩ := nx_small (Int.le_refl 0) (by decide) v0 (show s1 ≤ 1000000 by omega)
              have cT := Lib.hid (fun w hc hf => tick_at (X + 2 + f) s1 w hc hf v0 (by omega))
              rw [show max 0 s1 = s1 by omega] at n1' n2' n3'
              generalize nx s1 = u at *
              go_wp2_with fail
              refine (now_at (X + 2 + f) s1 _ v2).mono ?_
              rintro e w1' ⟨rfl, rfl⟩
              go_wp2_with fail
              refine (cT.out _ v2 v3).mono ?_
              rintro e w3 ⟨rfl, rfl⟩
              have hC2 : Clk (w1'.setCell ⟨X + 2 + f, 0, none⟩ (.int .u64 u)) X n (3 * j + 1) := hC1.set hfn (by omega) (by omega) (by omega)
              have hB2' : Below w.heap.size w (w1'.setCell ⟨X + 2 + f, 0, none⟩ (.int .u64 u)) := hBw.setCell (p := ⟨X + 2 + f, 0, none⟩) (by simp; omega) _
              replace d2 : (w1'.setCell ⟨X + 2 + f, 0, none⟩ (.int .u64 u)).cell? ⟨E, 2, none⟩ = some (.bool z) := cell_set d2 (by omega)

              have hs2 : E < (w1'.setCell ⟨X + 2 + f, 0, none⟩ (.int .u64 u)).heap.size := by simpa using hE
              clear hC1 hBw v2 v3 b1 b2 cT hE
              generalize w1'.setCell ⟨X + 2 + f, 0, none⟩ (.int .u64 u) = w2 at *
              by_cases hfg : f = g
              · have h1 : ((f : Int) == (g : Int)) = true := beq_iff_eq.2 (by omega)
                have HC3 := Lib.hid (hC2.on (Below.refl _ _) (Nat.le_refl _) (show (3 * j + 1 : Int) ≤ 3 * j + 2 by omega))
                have HL3 := Lib.hid (show Late w2 X n (3 * j + 2) (.slice none 0 0) from .inl rfl)
                have HB3 := Lib.hid hB2'

                clear hC2 hB2' hfg
                go_wp2_with fail
                refine wp_loop_rounds 1 ?_
                rw [rounds_succ]
                go_wp2_with fail
                go_roundw
                case rel => exact ⟨j + 1, by omega, by omega, by go_num, HC3.out.on (Below.refl _ _) (Nat.le_refl _) (by omega), HL3.out.on (Fr.of_below X n (Below.refl _ _) (Nat.le_refl _)) (by omega), HB3.out⟩
                case measure => simp [intOf]; omega
              · have h1 : ((f : Int) == (g : Int)) = false := beq_eq_false_iff_ne.2 (by omega)
                have Hs2 := Lib.hid hs2
                cases z
                · go_wp2_with fail
                  refine (see_any X n g (3 * j + 1) u _ (hC2.on ((Below.refl _ _).alloc (Nat.le_refl _) _) (Nat.le_refl _) (Int.le_refl _)) hgn (by omega) (by omega) (by omega)).mono ?_
                  rintro e w3 ⟨rfl, hC3, hF3', hB3⟩
                  have hF3 : Fr X n w2 w3 := (Fr.of_below X n ((Below.refl _ _).alloc (Nat.le_refl _) _) (Nat.le_refl _)).trans hF3'
                  have HC3 := Lib.hid (hC3.on (Below.refl _ _) (Nat.le_refl _) (show (3 * j + 1 + 1 : Int) ≤ 3 * j + 2 by omega))
                  have HL3 := Lib.hid (show Late w3 X n (3 * j + 2) (.slice none 0 0) from .inl rfl)
                  have HB3 := Lib.hid ((hB2'.alloc hB2'.size _).trans (hB3.mono hX))

                  clear hC2 hB2' hfg hC3 hF3 hF3' hB3 d2
                  go_wp2_with fail
                  refine wp_loop_rounds 1 ?_
                  rw [rounds_succ]
                  go_wp2_with fail
                  go_roundw
                  case rel => exact ⟨j + 1, by omega, by omega, by go_num, HC3.out.on (Below.refl _ _) (Nat.le_refl _) (by omega), HL3.out.on (Fr.of_below X n (Below.refl _ _) (Nat.le_refl _)) (by omega), HB3.out⟩
                  case measure => simp [intOf]; omega
                · go_wp2_with (at_builtin; refine wpList_append_lies _ rfl (.tmp 80) (.tmp 82) 52 rfl w2.heap.size 54 i0 _ 2 16 Try.underlying52 hi0 hz0 hz1 hz2 rfl (by decide) _ 0 [] rfl (World.ownsRow_nil _ _ 54 2) ⟨w2.heap.size + 1, 0, none⟩ 1 1 [.int .i64 g, .int .u64 u] rfl rfl (two_new (g : Int) u _ _) (two_one (g : Int) u) (by decide) (by unfold maxLen; omega) (by omega) (by simp; omega) (w2.heap.size + 2) (by simp) ?_; intro g3 c3 w3 hown3 hgrow3 _ hlt3)
                  have hF3 : Fr X n w2 w3 := (Fr.of_below X n (two_alloc w2 _ _) (Nat.le_refl _)).trans (Fr.of_below X n (grown_none hgrow3) (Nat.le_refl _))
                  have HC3 := Lib.hid ((hC2.on (two_alloc w2 _ _) (Nat.le_refl _) (Int.le_refl _)).on (grown_none hgrow3) (Nat.le_refl _) (show (3 * j + 1 : Int) ≤ 3 * j + 2 by omega))
                  have HL3 := Lib.hid (late_new hown3 hC2.size hlt3 hgn (show 0 ≤ u by omega) (show u ≤ 3 * j + 2 by omega))
                  have HB3 := Lib.hid ((hB2'.trans ((two_alloc w2 _ _).mono hB2'.size)).trans ((grown_none hgrow3).mono (by simp; omega)))

                  clear hC2 hB2' hfg hF3 hown3 hgrow3 hlt3 d2
                  go_wp2_with fail
                  refine wp_loop_rounds 1 ?_
                  rw [rounds_succ]
                  go_wp2_with fail
                  go_roundw
                  case rel => exact ⟨j + 1, by omega, by omega, by go_num, HC3.out.on (Below.refl _ _) (Nat.le_refl _) (by omega), HL3.out.on (Fr.of_below X n (Below.refl _ _) (Nat.le_refl _)) (by omega), HB3.out⟩
                  case measure => simp [intOf]; omega
            · go_wp2_with fail
              go_quiet (fail)
              obtain ⟨f, hf, hfn⟩ : ∃ f : Nat, x % (n : Int) = f ∧ f < n := ⟨(x % n).toNat, (Int.toNat_of_nonneg (Int.emod_nonneg _ (by omega))).symm, by have := Int.emod_lt_of_pos x (show (0 : Int) < n by omega); have := Int.emod_nonneg x (show (n : Int) ≠ 0 by omega); omega⟩
              obtain ⟨g, hg, hgn⟩ : ∃ f : Nat, y % (n : Int) = f ∧ f < n := ⟨(y % n).toNat, (Int.toNat_of_nonneg (Int.emod_nonneg _ (by omega))).symm, by have := Int.emod_lt_of_pos y (show (0 : Int) < n by omega); have := Int.emod_nonneg y (show (n : Int) ≠ 0 by omega); omega⟩
              rw [hf, hg]
              clear hf hg e0 e1 e2
              have hA : Below wr.heap.size wr ((wr.alloc (.cells #[.int .u8 x, .int .u8 y, .bool z] 57)).drewN nq) := below_drewN ((Below.refl _ _).alloc (Nat.le_refl _) _) _
              have hE : wr.heap.size < ((wr.alloc (.cells #[.int .u8 x, .int .u8 y, .bool z] 57)).drewN nq).heap.size := by simp
              have d2 : ((wr.alloc (.cells #[.int .u8 x, .int .u8 y, .bool z] 57)).drewN nq).cell? ⟨wr.heap.size, 2, none⟩ = some (.bool z) := by simp
              generalize (wr.alloc (.cells #[.int .u8 x, .int .u8 y, .bool z] 57)).drewN nq = w1' at *
              have hC1 := hcl.on hA (Nat.le_refl _) (Int.le_refl _)
              have hBw : Below w.heap.size w w1' := hB2.trans (hA.mono hB2.size)
              have hXE : X + 2 + n ≤ wr.heap.size := hcl.size
              obtain ⟨t2, r0, r1⟩ := (⟨Nat.lt_of_lt_of_le p2 hA.size, (hA.cell (p := ⟨a, 0, none⟩) p2).trans p3, (hA.cell (p := ⟨a, 1, none⟩) p2).trans p4⟩ : a < w1'.heap.size ∧ w1'.cell? ⟨a, 0, none⟩ = some (.int .i64 to) ∧ w1'.cell? ⟨a, 1, none⟩ = some (.int .u64 s))
              clear p2 p3 p4
              generalize wr.heap.size = E at *
              clear hA hcl hB2
              obtain ⟨s1, v0, v1, v2, v3⟩ := hC1.num f hfn
              have b1 := hC1.box
              have b2 := hC1.ptr f hfn
              obtain ⟨n1', n2', n3'⟩ := nx_small (Int.le_refl 0) (by decide) v0 (show s1 ≤ 1000000 by omega)
              have cT := Lib.hid (fun w hc hf => tick_at (X + 2 + f) s1 w hc hf v0 (by omega))
              rw [show max 0 s1 = s1 by omega] at n1' n2' n3'
              generalize nx s1 = u at *
              go_wp2_with fail
              refine (now_at (X + 2 + f) s1 _ v2).mono ?_
              rintro e w1' ⟨rfl, rfl⟩
              go_wp2_with fail
              refine (cT.out _ v2 v3).mono ?_
              rintro e w3 ⟨rfl, rfl⟩
              have hC2 : Clk (w1'.setCell ⟨X + 2 + f, 0, none⟩ (.int .u64 u)) X n (3 * j + 1) := hC1.set hfn (by omega) (by omega) (by omega)
              have hB2' : Below w.heap.size w (w1'.setCell ⟨X + 2 + f, 0, none⟩ (.int .u64 u)) := hBw.setCell (p := ⟨X + 2 + f, 0, none⟩) (by simp; omega) _
              replace d2 : (w1'.setCell ⟨X + 2 + f, 0, none⟩ (.int .u64 u)).cell? ⟨E, 2, none⟩ = some (.bool z) := cell_set d2 (by omega)
              replace r0 : (w1'.setCell ⟨X + 2 + f, 0, none⟩ (.int .u64 u)).cell? ⟨a, 0, none⟩ = some (.int .i64 to) := cell_set r0 (by omega)
              replace r1 : (w1'.setCell ⟨X + 2 + f, 0, none⟩ (.int .u64 u)).cell? ⟨a, 1, none⟩ = some (.int .u64 s) := cell_set r1 (by omega)
              replace t2 : a < (w1'.setCell ⟨X + 2 + f, 0, none⟩ (.int .u64 u)).heap.size := by simpa using t2
              have hs2 : E < (w1'.setCell ⟨X + 2 + f, 0, none⟩ (.int .u64 u)).heap.size := by simpa using hE
              clear hC1 hBw v2 v3 b1 b2 cT hE
              generalize w1'.setCell ⟨X + 2 + f, 0, none⟩ (.int .u64 u) = w2 at *
              by_cases hfg : f = g
              · have h1 : ((f : Int) == (g : Int)) = true := beq_iff_eq.2 (by omega)
                have HC3 := Lib.hid (hC2.on (Below.refl _ _) (Nat.le_refl _) (show (3 * j + 1 : Int) ≤ 3 * j + 2 by omega))
                have HL3 := Lib.hid (show Late w2 X n (3 * j + 2) (.slice none 0 0) from .inl rfl)
                have HB3 := Lib.hid hB2'
                have hF3 := Fr.of_below X n (Below.refl w2.heap.size w2) (Nat.le_refl _)
                have k0 := (hF3.cell a 0 t2 (.inr t1)).trans r0
                have k1 := (hF3.cell a 1 t2 (.inr t1)).trans r1
                clear hF3
                clear hC2 hB2' hfg
                go_wp2_with fail
                refine wp_loop_rounds 2 ?_
                rw [rounds_succ]
                go_wp2_with fail
                refine (see_any X n to (3 * j + 2) s _ (HC3.out.on ((Below.refl _ _).alloc (Nat.le_refl _) _) (Nat.le_refl _) (Int.le_refl _)) t3 t4 (by omega) (by omega)).mono ?_
                rintro e w4 ⟨rfl, hC4, hF4, hB4⟩
                have HC4 := Lib.hid hC4
                have HL4 := Lib.hid ((HL3.out.on (Fr.of_below X n ((Below.refl _ _).alloc (Nat.le_refl _) (.cells #[.int .i64 to, .int .u64 s] 54)) (Nat.le_refl _)) (Int.le_refl _)).on hF4 (Int.le_refl _))
                have HB4 := Lib.hid ((HB3.out.alloc HB3.out.size _).trans (hB4.mono hX))
                clear hC4 hF4 hB4
                go_wp2_with fail
                rw [rounds_succ]
                go_wp2_with fail
                go_roundw
                case rel => exact ⟨j + 1, by omega, by omega, by go_num, HC4.out.on (Below.refl _ _) (Nat.le_refl _) (by omega), HL4.out.on (Fr.of_below X n (Below.refl _ _) (Nat.le_refl _)) (by omega), HB4.out⟩
                case measure => simp [intOf]; omega
              · have h1 : ((f : Int) == (g : Int)) = false := beq_eq_false_iff_ne.2 (by omega)
                have Hs2 := Lib.hid hs2
                cases z
                · go_wp2_with fail
                  refine (see_any X n g (3 * j + 1) u _ (hC2.on ((Below.refl _ _).alloc (Nat.le_refl _) _) (Nat.le_refl _) (Int.le_refl _)) hgn (by omega) (by omega) (by omega)).mono ?_
                  rintro e w3 ⟨rfl, hC3, hF3', hB3⟩
                  have hF3 : Fr X n w2 w3 := (Fr.of_below X n ((Below.refl _ _).alloc (Nat.le_refl _) _) (Nat.le_refl _)).trans hF3'
                  have HC3 := Lib.hid (hC3.on (Below.refl _ _) (Nat.le_refl _) (show (3 * j + 1 + 1 : Int) ≤ 3 * j + 2 by omega))
                  have HL3 := Lib.hid (show Late w3 X n (3 * j + 2) (.slice none 0 0) from .inl rfl)
                  have HB3 := Lib.hid ((hB2'.alloc hB2'.size _).trans (hB3.mono hX))
                  have k0 := (hF3.cell a 0 t2 (.inr t1)).trans r0
                  have k1 := (hF3.cell a 1 t2 (.inr t1)).trans r1
                  clear hC2 hB2' hfg hC3 hF3 hF3' hB3 d2
                  go_wp2_with fail
                  refine wp_loop_rounds 2 ?_
                  rw [rounds_succ]
                  go_wp2_with fail
                  refine (see_any X n to (3 * j + 2) s _ (HC3.out.on ((Below.refl _ _).alloc (Nat.le_refl _) _) (Nat.le_refl _) (Int.le_refl _)) t3 t4 (by omega) (by omega)).mono ?_
                  rintro e w4 ⟨rfl, hC4, hF4, hB4⟩
                  have HC4 := Lib.hid hC4
                  have HL4 := Lib.hid ((HL3.out.on (Fr.of_below X n ((Below.refl _ _).alloc (Nat.le_refl _) (.cells #[.int .i64 to, .int .u64 s] 54)) (Nat.le_refl _)) (Int.le_refl _)).on hF4 (Int.le_refl _))
                  have HB4 := Lib.hid ((HB3.out.alloc HB3.out.size _).trans (hB4.mono hX))
                  clear hC4 hF4 hB4
                  go_wp2_with fail
                  rw [rounds_succ]
                  go_wp2_with fail
                  go_roundw
                  case rel => exact ⟨j + 1, by omega, by omega, by go_num, HC4.out.on (Below.refl _ _) (Nat.le_refl _) (by omega), HL4.out.on (Fr.of_below X n (Below.refl _ _) (Nat.le_refl _)) (by omega), HB4.out⟩
                  case measure => simp [intOf]; omega
                · go_wp2_with (at_builtin; refine wpList_append_lies _ rfl (.tmp 80) (.tmp 82) 52 rfl w2.heap.size 54 i0 _ 2 16 Try.underlying52 hi0 hz0 hz1 hz2 rfl (by decide) _ 0 [] rfl (World.ownsRow_nil _ _ 54 2) ⟨w2.heap.size + 1, 0, none⟩ 1 1 [.int .i64 g, .int .u64 u] rfl rfl (two_new (g : Int) u _ _) (two_one (g : Int) u) (by decide) (by unfold maxLen; omega) (by omega) (by simp; omega) (w2.heap.size + 2) (by simp) ?_; intro g3 c3 w3 hown3 hgrow3 _ hlt3)
                  have hF3 : Fr X n w2 w3 := (Fr.of_below X n (two_alloc w2 _ _) (Nat.le_refl _)).trans (Fr.of_below X n (grown_none hgrow3) (Nat.le_refl _))
                  have HC3 := Lib.hid ((hC2.on (two_alloc w2 _ _) (Nat.le_refl _) (Int.le_refl _)).on (grown_none hgrow3) (Nat.le_refl _) (show (3 * j + 1 : Int) ≤ 3 * j + 2 by omega))
                  have HL3 := Lib.hid (late_new hown3 hC2.size hlt3 hgn (show 0 ≤ u by omega) (show u ≤ 3 * j + 2 by omega))
                  have HB3 := Lib.hid ((hB2'.trans ((two_alloc w2 _ _).mono hB2'.size)).trans ((grown_none hgrow3).mono (by simp; omega)))
                  have k0 := (hF3.cell a 0 t2 (.inr t1)).trans r0
                  have k1 := (hF3.cell a 1 t2 (.inr t1)).trans r1
                  clear hC2 hB2' hfg hF3 hown3 hgrow3 hlt3 d2
                  go_wp2_with fail
                  refine wp_loop_rounds 2 ?_
                  rw [rounds_succ]
                  go_wp2_with fail
                  refine (see_any X n to (3 * j + 2) s _ (HC3.out.on ((Below.refl _ _).alloc (Nat.le_refl _) _) (Nat.le_refl _) (Int.le_refl _)) t3 t4 (by omega) (by omega)).mono ?_
                  rintro e w4 ⟨rfl, hC4, hF4, hB4⟩
                  have HC4 := Lib.hid hC4
                  have HL4 := Lib.hid ((HL3.out.on (Fr.of_below X n ((Below.refl _ _).alloc (Nat.le_refl _) (.cells #[.int .i64 to, .int .u64 s] 54)) (Nat.le_refl _)) (Int.le_refl _)).on hF4 (Int.le_refl _))
                  have HB4 := Lib.hid ((HB3.out.alloc HB3.out.size _).trans (hB4.mono hX))
                  clear hC4 hF4 hB4
                  go_wp2_with fail
                  rw [rounds_succ]
                  go_wp2_with fail
                  go_roundw
                  case rel => exact ⟨j + 1, by omega, by omega, by go_num, HC4.out.on (Below.refl _ _) (Nat.le_refl _) (by omega), HL4.out.on (Fr.of_below X n (Below.refl _ _) (Nat.le_refl _)) (by omega), HB4.out⟩
                  case measure => simp [intOf]; omega
        · go_wp2_with fail
          go_ret
          exact ⟨rfl, hB2⟩
end Go.Proofs.Ytfennglfmngeiaa.St
