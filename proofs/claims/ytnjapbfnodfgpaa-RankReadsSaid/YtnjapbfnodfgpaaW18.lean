/- The law on rows, walked. -/
import Derived.Test.YtnjapbfnodfgpaaW17
import Derived.BigRegion
namespace Go.Proofs.Ytnjapbfnodfgpaa.Rk
open Go Go.RowKit
/-- The code of a row. -/
def rowC (N : Int) (l : List Int) (M : Nat) : List Int := intC N ++ textC l ++ uintC M
theorem less_pre (c p q : List Int) : lessL (c ++ p) (c ++ q) = lessL p q := by
  induction c with
  | nil => rfl
  | cons x c ih => rw [List.cons_append, List.cons_append, less_eq, ih]
theorem rows_n {N N' : Int} (l l' : List Int) (M M' : Nat) (h0 : -9223372036854775808 ≤ N) (h1 : N ≤ 9223372036854775807) (h2 : -9223372036854775808 ≤ N') (h3 : N' ≤ 9223372036854775807) (h : N ≠ N') :
    lessL (rowC N l M) (rowC N' l' M') = decide (N < N') := by
  unfold rowC
  rw [List.append_assoc, List.append_assoc]
  rcases Int.lt_trichotomy N N' with h' | h' | h'
  · rw [((intC_lt h0 h3 h').app _ _).less, decide_eq_true h']
  · exact absurd h' h
  · rw [((intC_lt h2 h1 h').app _ _).notless, decide_eq_false (by omega)]
theorem rows_s (N : Int) {l l' : List Int} (M M' : Nat) (hl : ∀ x ∈ l, 0 ≤ x ∧ x ≤ 255) (hl' : ∀ x ∈ l', 0 ≤ x ∧ x ≤ 255) (h : l ≠ l') :
    lessL (rowC N l M) (rowC N l' M') = lessL l l' := by
  unfold rowC
  rw [List.append_assoc, List.append_assoc, less_pre]
  rcases less_total l l' with h' | h' | h'
  · exact absurd h' h
  · rw [((textC_lt l l' hl hl' h').app _ _).less, h']
  · rw [((textC_lt l' l hl' hl h').app _ _).notless, less_asymm _ _ h']
theorem rows_m (N : Int) (l : List Int) {M M' : Nat} (h : M < 18446744073709551616) (h' : M' < 18446744073709551616) :
    lessL (rowC N l M) (rowC N l M') = decide ((M : Int) < M') := by
  unfold rowC
  rw [less_pre]
  exact (uint_order h h').1
theorem rowC_len {N : Int} {l : List Int} {M : Nat} (h0 : -9223372036854775808 ≤ N) (h1 : N ≤ 9223372036854775807) (hM : M < 18446744073709551616) (hl : l.length ≤ 500) : (rowC N l M).length ≤ 1020 := by
  have := intC_len N h0 h1
  have := textC_len l
  have := uintC_len M hM
  unfold rowC
  rw [List.length_append, List.length_append]; omega
theorem row_gives (ao : Option Addr) (n c : Nat) (N M : Int) (l : List Int) (w : World) (hl : l.length = n) (hn : n ≤ 500) (hR : Rd w ao l)
    (n0 : -9223372036854775808 ≤ N) (n1 : N ≤ 9223372036854775807) (m0 : 0 ≤ M) (m1 : M ≤ 18446744073709551615) :
    GivesS 27 #[.agg #[.int .i64 N, .slice ao n c, .int .u64 M]] (rowC N l M.toNat) w :=
  gives_some (by have := uintC_pos_len M.toNat; unfold rowC; rw [List.length_append]; omega) (row_any ao n c N M l w hl hn hR n0 n1 m0 m1)
theorem six_on {W V X : World} {p : Nat} {x0 x1 x2 y0 y1 y2 : Value} (h : Below W.heap.size V X) (hp : p + 2 ≤ W.heap.size)
    (a0 : V.cell? ⟨p, 0, none⟩ = some x0) (a1 : V.cell? ⟨p, 1, none⟩ = some x1) (a2 : V.cell? ⟨p, 2, none⟩ = some x2)
    (b0 : V.cell? ⟨p + 1, 0, none⟩ = some y0) (b1 : V.cell? ⟨p + 1, 1, none⟩ = some y1) (b2 : V.cell? ⟨p + 1, 2, none⟩ = some y2) :
    X.cell? ⟨p, 0, none⟩ = some x0 ∧ X.cell? ⟨p, 1, none⟩ = some x1 ∧ X.cell? ⟨p, 2, none⟩ = some x2 ∧ X.cell? ⟨p + 1, 0, none⟩ = some y0 ∧ X.cell? ⟨p + 1, 1, none⟩ = some y1 ∧ X.cell? ⟨p + 1, 2, none⟩ = some y2 := by
  have l0 : p < W.heap.size := by omega
  have l1 : p + 1 < W.heap.size := by omega
  exact ⟨(h.cell (p := ⟨p, 0, none⟩) l0).trans a0, (h.cell (p := ⟨p, 1, none⟩) l0).trans a1, (h.cell (p := ⟨p, 2, none⟩) l0).trans a2,
    (h.cell (p := ⟨p + 1, 0, none⟩) l1).trans b0, (h.cell (p := ⟨p + 1, 1, none⟩) l1).trans b1, (h.cell (p := ⟨p + 1, 2, none⟩) l1).trans b2⟩
/-- Two structs in boxes of their own; the middle field of each is written. -/
theorem two_set {w1 : World} {p q : Nat} {x0 x1 x2 y0 y1 y2 : Value} (s r : Value) (hpq : p ≠ q)
    (a0 : w1.cell? ⟨p, 0, none⟩ = some x0) (a1 : w1.cell? ⟨p, 1, none⟩ = some x1) (a2 : w1.cell? ⟨p, 2, none⟩ = some x2)
    (b0 : w1.cell? ⟨q, 0, none⟩ = some y0) (b1 : w1.cell? ⟨q, 1, none⟩ = some y1) (b2 : w1.cell? ⟨q, 2, none⟩ = some y2) :
    (((w1.setCell ⟨p, 1, none⟩ s).setCell ⟨q, 1, none⟩ r).drew.cell? ⟨p, 0, none⟩ = some x0 ∧ ((w1.setCell ⟨p, 1, none⟩ s).setCell ⟨q, 1, none⟩ r).drew.cell? ⟨p, 1, none⟩ = some s ∧ ((w1.setCell ⟨p, 1, none⟩ s).setCell ⟨q, 1, none⟩ r).drew.cell? ⟨p, 2, none⟩ = some x2) ∧
    (((w1.setCell ⟨p, 1, none⟩ s).setCell ⟨q, 1, none⟩ r).drew.cell? ⟨q, 0, none⟩ = some y0 ∧ ((w1.setCell ⟨p, 1, none⟩ s).setCell ⟨q, 1, none⟩ r).drew.cell? ⟨q, 1, none⟩ = some r ∧ ((w1.setCell ⟨p, 1, none⟩ s).setCell ⟨q, 1, none⟩ r).drew.cell? ⟨q, 2, none⟩ = some y2) := by
  have hqp : q ≠ p := fun e => hpq e.symm
  refine ⟨⟨?_, ?_, ?_⟩, ?_, ?_, ?_⟩
  · exact (World.cell?_setCell_other _ _ _ _ (by simp)).trans ((World.cell?_setCell_other _ _ _ _ (by simp)).trans a0)
  · exact (World.cell?_setCell_other _ _ _ _ (by simp)).trans (World.cell?_setCell_same _ _ _ a1)
  · exact (World.cell?_setCell_other _ _ _ _ (by simp)).trans ((World.cell?_setCell_other _ _ _ _ (by simp)).trans a2)
  · exact (World.cell?_setCell_other _ _ _ _ (by simp)).trans ((World.cell?_setCell_other _ _ _ _ (by simp)).trans b0)
  · exact World.cell?_setCell_same _ _ _ ((World.cell?_setCell_other _ _ _ _ (by simp)).trans b1)
  · exact (World.cell?_setCell_other _ _ _ _ (by simp)).trans ((World.cell?_setCell_other _ _ _ _ (by simp)).trans b2)
set_option maxHeartbeats 4000000 in
theorem rows (ao bo : Option Addr) (n m c d : Nat) (N M N' M' : Int) (la lb : List Int) (w : World) (hnc : n ≤ c) (hmd : m ≤ d) (_hc : c ≤ maxLen) (_hd : d ≤ maxLen) (hla : la.length = n) (hlb : lb.length = m)
    (ha : Rd w ao la) (hb : Rd w bo lb) (ba : ∀ x ∈ la, 0 ≤ x ∧ x ≤ 255) (bb : ∀ x ∈ lb, 0 ≤ x ∧ x ≤ 255)
    (n0 : -9223372036854775808 ≤ N) (n1 : N ≤ 9223372036854775807) (n0' : -9223372036854775808 ≤ N') (n1' : N' ≤ 9223372036854775807) (m0 : 0 ≤ M) (m1 : M ≤ 18446744073709551615) (m0' : 0 ≤ M') (m1' : M' ≤ 18446744073709551615) :
    Calls Try.prog 7 #[.agg #[.int .i64 N, .slice ao n c, .int .u64 M], .agg #[.int .i64 N', .slice bo m d, .int .u64 M']] w fun e w' => e = .returned (.bool true) ∧ Below w.heap.size w w' := by
  unfold maxLen at _hc _hd
  obtain ⟨n', hn'⟩ : ∃ n', n' = min n 500 := ⟨_, rfl⟩
  obtain ⟨m', hm'⟩ : ∃ m', m' = min m 500 := ⟨_, rfl⟩
  have en : (min (n : Int) 500).toNat = n' := by omega
  have em : (min (m : Int) 500).toNat = m' := by omega
  have q1 : (min (n : Int) 500) ≤ c := by omega
  have q2 : (min (m : Int) 500) ≤ d := by omega
  have q3 : 0 ≤ (min (n : Int) 500) := by omega
  have q4 : 0 ≤ (min (m : Int) 500) := by omega
  have la' : (la.take 500).length = n' := by rw [List.length_take]; omega
  have lb' : (lb.take 500).length = m' := by rw [List.length_take]; omega
  have ra0 := ha.take 500
  have rb0 := hb.take 500
  have ba' := take_byte 500 ba
  have bb' := take_byte 500 bb
  clear ha hb ba bb hla hlb
  generalize la.take 500 = A at *
  generalize lb.take 500 = B at *
  have GA := Lib.hid (fun w (h : Rd w ao A) => row_gives ao n' c N M A w la' (by omega) h n0 n1 m0 m1)
  have GB := Lib.hid (fun w (h : Rd w bo B) => row_gives bo m' d N' M' B w lb' (by omega) h n0' n1' m0' m1')
  have LP := Lib.hid (le_max (rowC_len n0 n1 (show M.toNat < 18446744073709551616 by omega) (show A.length ≤ 500 by omega)) (by decide))
  have LQ := Lib.hid (le_max (rowC_len n0' n1' (show M'.toNat < 18446744073709551616 by omega) (show B.length ≤ 500 by omega)) (by decide))
  have LA := Lib.hid (le_max (show A.length ≤ 500 by omega) (by decide))
  have LB := Lib.hid (le_max (show B.length ≤ 500 by omega) (by decide))
  have EA := Lib.hid la'
  have EB := Lib.hid lb'
  have RA0 := Lib.hid ra0
  have RB0 := Lib.hid rb0
  have ON := Lib.hid (fun h => rows_n A B M.toNat M'.toNat n0 n1 n0' n1' h)
  have OS := Lib.hid (fun h => rows_s N M.toNat M'.toNat ba' bb' h)
  have OM : Hid (lessL (rowC N A M.toNat) (rowC N A M'.toNat) = decide (M < M')) := Lib.hid (by
    rw [rows_m N A (by omega) (by omega), show ((M.toNat : Nat) : Int) = M by omega, show ((M'.toNat : Nat) : Int) = M' by omega])
  clear hn' hm' la' lb' ra0 rb0 ba' bb' n0 n1 n0' n1' m0 m1 m0' m1'
  go_enter Try.func7, Try.ntmps7
  go_wp2_with fail
  refine (awake_any _).mono ?_
  rintro e w1 ⟨rfl, hB1⟩
  have hs1 := hB1.size
  have a0 := (hB1.cell (p := ⟨w.heap.size, 0, none⟩) (by simp; omega)).trans (show _ = some (Value.int .i64 N) by simp)
  have a1 := (hB1.cell (p := ⟨w.heap.size, 1, none⟩) (by simp; omega)).trans (show _ = some (Value.slice ao n c) by simp)
  have a2 := (hB1.cell (p := ⟨w.heap.size, 2, none⟩) (by simp; omega)).trans (show _ = some (Value.int .u64 M) by simp)
  have b0 := (hB1.cell (p := ⟨w.heap.size + 1, 0, none⟩) (by simp)).trans (show _ = some (Value.int .i64 N') by simp)
  have b1 := (hB1.cell (p := ⟨w.heap.size + 1, 1, none⟩) (by simp)).trans (show _ = some (Value.slice bo m d) by simp)
  have b2 := (hB1.cell (p := ⟨w.heap.size + 1, 2, none⟩) (by simp)).trans (show _ = some (Value.int .u64 M') by simp)
  have fa : w1.frozen? ⟨w.heap.size, 1, none⟩ = false := (hB1.frozen (p := ⟨w.heap.size, 1, none⟩) (by simp; omega)).trans (by simp)
  have fb : w1.frozen? ⟨w.heap.size + 1, 1, none⟩ = false := (hB1.frozen (p := ⟨w.heap.size + 1, 1, none⟩) (by simp)).trans (by simp)
  have hb1 : Below w.heap.size w w1 := (((Below.refl _ _).alloc (Nat.le_refl _) _).alloc (by simp) _).trans (hB1.mono (by simp; omega))
  simp only [World.size_alloc] at hs1
  clear hB1
  go_wp2_with fail
  go_region
  have hbW := ((hb1.setCell (p := ⟨w.heap.size, 1, none⟩) (Nat.le_refl _) (.slice ao n' c)).setCell (p := ⟨w.heap.size + 1, 1, none⟩) (by simp) (.slice bo m' d)).drew
  have sW : w.heap.size + 2 ≤ (((w1.setCell ⟨w.heap.size, 1, none⟩ (.slice ao n' c)).setCell ⟨w.heap.size + 1, 1, none⟩ (.slice bo m' d)).drew).heap.size := by
    show _ ≤ ((w1.setCell ⟨w.heap.size, 1, none⟩ (.slice ao n' c)).setCell ⟨w.heap.size + 1, 1, none⟩ (.slice bo m' d)).heap.size
    simp; omega
  obtain ⟨⟨x0, x1, x2⟩, y0, y1, y2⟩ := two_set (.slice ao n' c) (.slice bo m' d) (by omega : w.heap.size ≠ w.heap.size + 1) a0 a1 a2 b0 b1 b2
  clear a0 a1 a2 b0 b1 b2 fa fb hb1 hs1
  generalize (((w1.setCell ⟨w.heap.size, 1, none⟩ (.slice ao n' c)).setCell ⟨w.heap.size + 1, 1, none⟩ (.slice bo m' d)).drew) = w2 at *
  have a0 := x0
  have a1 := x1
  have a2 := x2
  have b0 := y0
  have b1 := y1
  have b2 := y2
  clear x0 x1 x2 y0 y1 y2
  have RA := Lib.hid (RA0.out.on hbW (Nat.le_refl _))
  have RB := Lib.hid (RB0.out.on hbW (Nat.le_refl _))
  clear RA0 RB0
  by_cases hN : N = N'
  · subst hN
    by_cases hS : A = B
    · have HS := Lib.hid (same_says' (x := true) c d EA.out EB.out LA.out RA.out RB.out (decide_eq_true hS))
      have HX : Hid (lessL (rowC N A M.toNat) (rowC N B M'.toNat) = decide (M < M')) := by rw [← hS]; exact OM
      clear ON OS OM hS
      go_wp2_with fail
      refine HS.out.mono ?_
      rintro e w3 ⟨rfl, hB3⟩
      obtain ⟨t0, t1, t2, t3, t4, t5⟩ := six_on hB3 sW a0 a1 a2 b0 b1 b2
      have hbV := hbW.trans (hB3.mono hbW.size)
      have sV : w.heap.size + 2 ≤ w3.heap.size := Nat.le_trans sW hB3.size
      have RAV := Lib.hid (RA.out.on hB3 (Nat.le_refl _))
      have RBV := Lib.hid (RB.out.on hB3 (Nat.le_refl _))
      clear a0 a1 a2 b0 b1 b2 hbW sW RA RB hB3 HS
      have a0 := t0
      have a1 := t1
      have a2 := t2
      have b0 := t3
      have b1 := t4
      have b2 := t5
      have hbW := hbV
      have sW := sV
      have RA := RAV
      have RB := RBV
      clear t0 t1 t2 t3 t4 t5 hbV sV RAV RBV
      go_wp2_with fail
      go_region_held3 (fun w' => w'.cell? ⟨w.heap.size, 0, none⟩ = some (.int .i64 N) ∧ w'.cell? ⟨w.heap.size, 1, none⟩ = some (.slice ao n' c) ∧ w'.cell? ⟨w.heap.size, 2, none⟩ = some (.int .u64 M) ∧ w'.cell? ⟨w.heap.size + 1, 0, none⟩ = some (.int .i64 N) ∧ w'.cell? ⟨w.heap.size + 1, 1, none⟩ = some (.slice bo m' d) ∧ w'.cell? ⟨w.heap.size + 1, 2, none⟩ = some (.int .u64 M'))
        (first | exact ⟨a0, a1, a2, b0, b1, b2⟩ | exact ⟨c0, c1, c2, d0, d1, d2⟩ | exact ⟨e0, e1, e2, f0, f1, f2⟩ | exact ⟨g0, g1, g2, h0, h1, h2⟩)
        (first
          | (have hh := RB1; clear hh; go_at_call 27; refine (GB.out _ RB1).mono ?_; rintro e x2 ⟨p2, qc, rfl, ⟨_, rq⟩, hX2⟩; obtain ⟨e0, e1, e2, f0, f1, f2⟩ := six_on hX2 z1 c0 c1 c2 d0 d1 d2; have z2 : w.heap.size + 2 ≤ x2.heap.size := Nat.le_trans z1 hX2.size; have hBX2 : Below w.heap.size w x2 := hBX1.trans (hX2.mono hBX1.size); have rp2 := rp.on hX2 (Nat.le_refl _))
          | (go_at_call 27; refine (GA.out _ (RA.out.on (Below.refl _ _).drew (Nat.le_refl _))).mono ?_; rintro e x1 ⟨p1, pc, rfl, ⟨_, rp⟩, hX1⟩; obtain ⟨c0, c1, c2, d0, d1, d2⟩ := six_on (hX1 : Below w3.heap.size w3.drew x1) sW a0 a1 a2 b0 b1 b2; have z1 : w.heap.size + 2 ≤ x1.heap.size := Nat.le_trans sW hX1.size; have hBX1 : Below w.heap.size w x1 := hbW.drew.trans (hX1.mono hbW.size); have RB1 := (RB.out.on (Below.refl w3.heap.size w3).drew (Nat.le_refl _)).on hX1 (Nat.le_refl _))
          | (go_at_call 26; refine (less_says pc qc LP.out LQ.out rp2 rq HX.out).mono ?_; rintro e x3 ⟨rfl, hX3⟩; obtain ⟨g0, g1, g2, h0, h1, h2⟩ := six_on hX3 z2 e0 e1 e2 f0 f1 f2; have hBX3 : Below w.heap.size w x3 := hBX2.trans (hX3.mono hBX2.size)))
      go_wp2_with fail
      go_ret
      exact ⟨by simp, hBX3⟩
    · have HS := Lib.hid (same_says' (x := false) c d EA.out EB.out LA.out RA.out RB.out (decide_eq_false hS))
      obtain ⟨x, hx⟩ : ∃ x, x = lessL A B := ⟨_, rfl⟩
      have HX := Lib.hid ((OS.out hS).trans hx.symm)
      have HZ := Lib.hid hx.symm
      clear ON OS OM hS hx
      go_wp2_with fail
      refine HS.out.mono ?_
      rintro e w3 ⟨rfl, hB3⟩
      obtain ⟨t0, t1, t2, t3, t4, t5⟩ := six_on hB3 sW a0 a1 a2 b0 b1 b2
      have hbV := hbW.trans (hB3.mono hbW.size)
      have sV : w.heap.size + 2 ≤ w3.heap.size := Nat.le_trans sW hB3.size
      have RAV := Lib.hid (RA.out.on hB3 (Nat.le_refl _))
      have RBV := Lib.hid (RB.out.on hB3 (Nat.le_refl _))
      clear a0 a1 a2 b0 b1 b2 hbW sW RA RB hB3 HS
      have a0 := t0
      have a1 := t1
      have a2 := t2
      have b0 := t3
      have b1 := t4
      have b2 := t5
      clear t0 t1 t2 t3 t4 t5
      have HL := Lib.hid (less_says' c d EA.out EB.out LA.out LB.out RAV.out RBV.out HZ.out)
      go_wp2_with fail
      refine HL.out.mono ?_
      rintro e w4 ⟨rfl, hB4⟩
      obtain ⟨t0, t1, t2, t3, t4, t5⟩ := six_on hB4 sV a0 a1 a2 b0 b1 b2
      have hbW := hbV.trans (hB4.mono hbV.size)
      have sW : w.heap.size + 2 ≤ w4.heap.size := Nat.le_trans sV hB4.size
      have RA := Lib.hid (RAV.out.on hB4 (Nat.le_refl _))
      have RB := Lib.hid (RBV.out.on hB4 (Nat.le_refl _))
      clear a0 a1 a2 b0 b1 b2 hbV sV RAV RBV hB4 HL
      have a0 := t0
      have a1 := t1
      have a2 := t2
      have b0 := t3
      have b1 := t4
      have b2 := t5
      clear t0 t1 t2 t3 t4 t5
      go_wp2_with fail
      go_region_held3 (fun w' => w'.cell? ⟨w.heap.size, 0, none⟩ = some (.int .i64 N) ∧ w'.cell? ⟨w.heap.size, 1, none⟩ = some (.slice ao n' c) ∧ w'.cell? ⟨w.heap.size, 2, none⟩ = some (.int .u64 M) ∧ w'.cell? ⟨w.heap.size + 1, 0, none⟩ = some (.int .i64 N) ∧ w'.cell? ⟨w.heap.size + 1, 1, none⟩ = some (.slice bo m' d) ∧ w'.cell? ⟨w.heap.size + 1, 2, none⟩ = some (.int .u64 M'))
        (first | exact ⟨a0, a1, a2, b0, b1, b2⟩ | exact ⟨c0, c1, c2, d0, d1, d2⟩ | exact ⟨e0, e1, e2, f0, f1, f2⟩ | exact ⟨g0, g1, g2, h0, h1, h2⟩)
        (first
          | (have hh := RB1; clear hh; go_at_call 27; refine (GB.out _ RB1).mono ?_; rintro e x2 ⟨p2, qc, rfl, ⟨_, rq⟩, hX2⟩; obtain ⟨e0, e1, e2, f0, f1, f2⟩ := six_on hX2 z1 c0 c1 c2 d0 d1 d2; have z2 : w.heap.size + 2 ≤ x2.heap.size := Nat.le_trans z1 hX2.size; have hBX2 : Below w.heap.size w x2 := hBX1.trans (hX2.mono hBX1.size); have rp2 := rp.on hX2 (Nat.le_refl _))
          | (go_at_call 27; refine (GA.out _ (RA.out.on (Below.refl _ _).drew (Nat.le_refl _))).mono ?_; rintro e x1 ⟨p1, pc, rfl, ⟨_, rp⟩, hX1⟩; obtain ⟨c0, c1, c2, d0, d1, d2⟩ := six_on (hX1 : Below w4.heap.size w4.drew x1) sW a0 a1 a2 b0 b1 b2; have z1 : w.heap.size + 2 ≤ x1.heap.size := Nat.le_trans sW hX1.size; have hBX1 : Below w.heap.size w x1 := hbW.drew.trans (hX1.mono hbW.size); have RB1 := (RB.out.on (Below.refl w4.heap.size w4).drew (Nat.le_refl _)).on hX1 (Nat.le_refl _))
          | (go_at_call 26; refine (less_says pc qc LP.out LQ.out rp2 rq HX.out).mono ?_; rintro e x3 ⟨rfl, hX3⟩; obtain ⟨g0, g1, g2, h0, h1, h2⟩ := six_on hX3 z2 e0 e1 e2 f0 f1 f2; have hBX3 : Below w.heap.size w x3 := hBX2.trans (hX3.mono hBX2.size)))
      go_wp2_with fail
      go_ret
      exact ⟨by simp, hBX3⟩
  · have hne : (N != N') = true := by rw [bne_iff_ne]; exact hN
    have HX := Lib.hid (ON.out hN)
    clear ON OS OM hN
    go_wp2_with fail
    go_region_held3 (fun w' => w'.cell? ⟨w.heap.size, 0, none⟩ = some (.int .i64 N) ∧ w'.cell? ⟨w.heap.size, 1, none⟩ = some (.slice ao n' c) ∧ w'.cell? ⟨w.heap.size, 2, none⟩ = some (.int .u64 M) ∧ w'.cell? ⟨w.heap.size + 1, 0, none⟩ = some (.int .i64 N') ∧ w'.cell? ⟨w.heap.size + 1, 1, none⟩ = some (.slice bo m' d) ∧ w'.cell? ⟨w.heap.size + 1, 2, none⟩ = some (.int .u64 M'))
      (first | exact ⟨a0, a1, a2, b0, b1, b2⟩ | exact ⟨c0, c1, c2, d0, d1, d2⟩ | exact ⟨e0, e1, e2, f0, f1, f2⟩ | exact ⟨g0, g1, g2, h0, h1, h2⟩)
      (first
        | (have hh := RB1; clear hh; go_at_call 27; refine (GB.out _ RB1).mono ?_; rintro e x2 ⟨p2, qc, rfl, ⟨_, rq⟩, hX2⟩; obtain ⟨e0, e1, e2, f0, f1, f2⟩ := six_on hX2 z1 c0 c1 c2 d0 d1 d2; have z2 : w.heap.size + 2 ≤ x2.heap.size := Nat.le_trans z1 hX2.size; have hBX2 : Below w.heap.size w x2 := hBX1.trans (hX2.mono hBX1.size); have rp2 := rp.on hX2 (Nat.le_refl _))
        | (go_at_call 27; refine (GA.out _ (RA.out.on (Below.refl _ _).drew (Nat.le_refl _))).mono ?_; rintro e x1 ⟨p1, pc, rfl, ⟨_, rp⟩, hX1⟩; obtain ⟨c0, c1, c2, d0, d1, d2⟩ := six_on (hX1 : Below w2.heap.size w2.drew x1) sW a0 a1 a2 b0 b1 b2; have z1 : w.heap.size + 2 ≤ x1.heap.size := Nat.le_trans sW hX1.size; have hBX1 : Below w.heap.size w x1 := hbW.drew.trans (hX1.mono hbW.size); have RB1 := (RB.out.on (Below.refl w2.heap.size w2).drew (Nat.le_refl _)).on hX1 (Nat.le_refl _))
        | (go_at_call 26; refine (less_says pc qc LP.out LQ.out rp2 rq HX.out).mono ?_; rintro e x3 ⟨rfl, hX3⟩; obtain ⟨g0, g1, g2, h0, h1, h2⟩ := six_on hX3 z2 e0 e1 e2 f0 f1 f2; have hBX3 : Below w.heap.size w x3 := hBX2.trans (hX3.mono hBX2.size)))
    go_wp2_with fail
    go_ret
    exact ⟨by simp, hBX3⟩
end Go.Proofs.Ytnjapbfnodfgpaa.Rk
