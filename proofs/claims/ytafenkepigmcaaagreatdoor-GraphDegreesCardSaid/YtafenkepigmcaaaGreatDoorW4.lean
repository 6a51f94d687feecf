/- graph: two answers of one content are the same, walked. -/
import Derived.Test.YtafenkepigmcaaaGreatDoorW2
namespace Go.Proofs.YtafenkepigmcaaaGreatDoor.Gr
open Go Go.RowKit YtafenkepigmcaaaGreatDoor.So
theorem aCells_at {l : List Av} {i : Nat} {a : Av} (h : l[i]? = some a) : (aCells l)[i * 3]? = some (.int .u8 a.k) ∧ (aCells l)[i * 3 + 1]? = some (.int .i64 a.n) ∧ (aCells l)[i * 3 + 2]? = some (.string a.s) := by
  induction l generalizing i with
  | nil => simp at h
  | cons b l ih =>
    have e : aCells (b :: l) = .int .u8 b.k :: .int .i64 b.n :: .string b.s :: aCells l := rfl
    rw [e]
    cases i with
    | zero => simp at h; subst h; exact ⟨rfl, rfl, rfl⟩
    | succ i =>
      simp at h
      obtain ⟨h0, h1, h2⟩ := ih h
      rw [show (i + 1) * 3 = i * 3 + 3 by omega]
      exact ⟨h0, h1, h2⟩
theorem row_three {w : World} {B n : Nat} {ao : Option Addr} {cap : Nat} {l : List Av} (h : w.ownsRow B 47 3 (.slice ao n cap) n (aCells l)) {i : Nat} {a : Av} (ha : l[i]? = some a) : ∃ g, ao = some ⟨g, 0, none⟩ ∧ w.cell? ⟨g, i * 3, none⟩ = some (.int .u8 a.k) ∧ w.cell? ⟨g, i * 3 + 1, none⟩ = some (.int .i64 a.n) ∧ w.cell? ⟨g, i * 3 + 2, none⟩ = some (.string a.s) := by
  obtain ⟨c0, c1, c2⟩ := aCells_at ha
  obtain ⟨g, rfl, _, _, q0⟩ := row_cell h c0
  obtain ⟨g1, e1, _, _, q1⟩ := row_cell h c1
  obtain ⟨g2, e2, _, _, q2⟩ := row_cell h c2
  cases e1; cases e2
  exact ⟨g, rfl, q0, q1, q2⟩
set_option maxRecDepth 100000 in
set_option maxHeartbeats 1000000 in
theorem same_vals (B C : Nat) (v u : Value) (n : Nat) (l : List Av) (w : World) (h : w.ownsRow B 47 3 v n (aCells l)) (h2 : w.ownsRow C 47 3 u n (aCells l)) (hn : n = l.length) (hl : n ≤ 1000000) : Calls Tryz.prog 58 #[v, u] w (SaysYes w) := by
  obtain ⟨ao, cap, rfl⟩ := row_slice h
  obtain ⟨bo, cup, rfl⟩ := row_slice h2
  have hl' : (n : Int) ≤ 1000000 := by omega
  have HX := Lib.hid (And.intro h (And.intro h2 hn))
  clear h h2 hn hl
  go_enter Tryz.func58, Tryz.ntmps58
  go_wp2_with fail
  go_loopw [13] (fun x wr => ∃ i : Nat, x = .int .i64 i ∧ i ≤ n ∧ Hid (Below w.heap.size w wr)) (fun x _ => n + 1 - (intOf x).toNat)
  case atStart => exact ⟨0, rfl, Nat.zero_le _, Lib.hid (.refl _ _)⟩
  case round =>
    obtain ⟨i, rfl, hi, HI⟩ := hrel
    by_cases hin : i < n
    · obtain ⟨⟨k, m, s⟩, ha⟩ : ∃ a, l[i]? = some a := ⟨_, List.getElem?_eq_getElem (by have := HX.out.2.2; omega)⟩
      obtain ⟨g1, rfl, a0, a1, a2⟩ := row_three (row_turned HX.out.1 (below_any (G := fun _ => False) HI.out) (fun _ _ h => h)) ha
      obtain ⟨g2, rfl, b0, b1, b2⟩ := row_three (row_turned HX.out.2.1 (below_any (G := fun _ => False) HI.out) (fun _ _ h => h)) ha
      simp only at a0 a1 a2 b0 b1 b2
      have hq := neq_self k m s
      have hi1 : i + 1 ≤ n := hin
      clear ha
      go_wp2_with fail
      go_quiet (fail)
      go_wp2_with fail
      go_roundw
      case rel => exact ⟨i + 1, by go_num, hi1, Lib.hid (HI.out.trans ((turned_drewN (fun _ => False) _ _).below HI.out.size (fun k hk => hk.elim)))⟩
      case measure => simp [intOf] <;> omega
    · have hiE : n = i := by omega
      subst hiE
      clear hin hi
      go_wp2_with fail
      go_ret
      exact ⟨rfl, HI.out⟩
set_option maxRecDepth 100000 in
set_option maxHeartbeats 1000000 in
theorem same_nums (B C : Nat) (v u : Value) (n : Nat) (l : List Int) (w : World) (h : w.ownsRow B 23 1 v n (KA.u32s l)) (h2 : w.ownsRow C 23 1 u n (KA.u32s l)) (hn : n = l.length) (hl : n ≤ 1000000) : Calls Tryz.prog 27 #[v, u] w (SaysYes w) := by
  obtain ⟨ao, cap, rfl⟩ := row_slice h
  obtain ⟨bo, cup, rfl⟩ := row_slice h2
  have hl' : (n : Int) ≤ 1000000 := by omega
  have HX := Lib.hid (And.intro h (And.intro h2 hn))
  clear h h2 hn hl
  go_enter Tryz.func27, Tryz.ntmps27
  go_wp2_with fail
  go_loopw [13] (fun x wr => ∃ i : Nat, x = .int .i64 i ∧ i ≤ n ∧ Hid (Below w.heap.size w wr)) (fun x _ => n + 1 - (intOf x).toNat)
  case atStart => exact ⟨0, rfl, Nat.zero_le _, Lib.hid (.refl _ _)⟩
  case round =>
    obtain ⟨i, rfl, hi, HI⟩ := hrel
    by_cases hin : i < n
    · obtain ⟨x, hx⟩ : ∃ x, l[i]? = some x := ⟨_, List.getElem?_eq_getElem (by have := HX.out.2.2; omega)⟩
      obtain ⟨g1, rfl, -, -, a0⟩ := row_cell (row_turned HX.out.1 (below_any (G := fun _ => False) HI.out) (fun _ _ h => h)) (k := i) (u := .int .u32 x) (by simp [KA.u32s, hx])
      obtain ⟨g2, rfl, -, -, b0⟩ := row_cell (row_turned HX.out.2.1 (below_any (G := fun _ => False) HI.out) (fun _ _ h => h)) (k := i) (u := .int .u32 x) (by simp [KA.u32s, hx])
      have hi1 : i + 1 ≤ n := hin
      clear hx
      go_wp2_with fail
      go_quiet (fail)
      go_wp2_with fail
      go_roundw
      case rel => exact ⟨i + 1, by go_num, hi1, Lib.hid (HI.out.trans ((turned_drewN (fun _ => False) _ _).below HI.out.size (fun k hk => hk.elim)))⟩
      case measure => simp [intOf] <;> omega
    · have hiE : n = i := by omega
      subst hiE
      clear hin hi
      go_wp2_with fail
      go_ret
      exact ⟨rfl, HI.out⟩
set_option maxRecDepth 100000 in
set_option maxHeartbeats 1000000 in
/-- Two answers of one content are the same. -/
theorem same_any (B C D D2 : Nat) (E At : Int) (v u x y : Value) (n m : Nat) (l : List Av) (ks : List Int) (w : World) (h : w.ownsRow B 47 3 v n (aCells l)) (h2 : w.ownsRow C 47 3 u n (aCells l)) (hn : n = l.length) (hl : n ≤ 1000000) (h3 : w.ownsRow D 23 1 x m (KA.u32s ks)) (h4 : w.ownsRow D2 23 1 y m (KA.u32s ks)) (hm : m = ks.length) (hk : m ≤ 1000000) :
    Calls Tryz.prog 20 #[.agg #[.int .i64 E, .int .i64 At, v, x], .agg #[.int .i64 E, .int .i64 At, u, y]] w (SaysYes w) := by
  obtain ⟨ao, cap, rfl⟩ := row_slice h
  obtain ⟨bo, cup, rfl⟩ := row_slice h2
  obtain ⟨xo, cx, rfl⟩ := row_slice h3
  obtain ⟨yo, cy, rfl⟩ := row_slice h4
  have b1 := (Below.refl w.heap.size w).alloc (Nat.le_refl _) (.cells #[.int .i64 E, .int .i64 At, .slice ao n cap, .slice xo m cx] 39)
  have b2 := b1.alloc b1.size (.cells #[.int .i64 E, .int .i64 At, .slice bo n cup, .slice yo m cy] 39)
  have k1 := (heap_alloc_old (w.alloc (.cells #[.int .i64 E, .int .i64 At, .slice ao n cap, .slice xo m cx] 39)) (.cells #[.int .i64 E, .int .i64 At, .slice bo n cup, .slice yo m cy] 39) (by simp)).trans (heap_alloc_new w (.cells #[.int .i64 E, .int .i64 At, .slice ao n cap, .slice xo m cx] 39))
  have k2 := heap_alloc2_new w (.cells #[.int .i64 E, .int .i64 At, .slice ao n cap, .slice xo m cx] 39) (.cells #[.int .i64 E, .int .i64 At, .slice bo n cup, .slice yo m cy] 39)
  obtain ⟨z, hz⟩ : ∃ z, w.heap.size = z := ⟨_, rfl⟩
  obtain ⟨W, hW⟩ : ∃ W, (w.alloc (.cells #[.int .i64 E, .int .i64 At, .slice ao n cap, .slice xo m cx] 39)).alloc (.cells #[.int .i64 E, .int .i64 At, .slice bo n cup, .slice yo m cy] 39) = W := ⟨_, rfl⟩
  rw [hW] at b2 k1 k2
  rw [hz] at k1 k2
  have HV := Lib.hid (same_vals B C _ _ n l W (row_turned h (below_any (G := fun _ => False) b2) (fun _ _ h => h)) (row_turned h2 (below_any (G := fun _ => False) b2) (fun _ _ h => h)) hn hl)
  have HK := Lib.hid (And.intro b2 (And.intro k1 (And.intro k2 (And.intro h3 (And.intro h4 (And.intro hm (And.intro hk hz)))))))
  have c1 : W.cell? ⟨z, 0, none⟩ = some (.int .i64 E) ∧ W.cell? ⟨z, 1, none⟩ = some (.int .i64 At) ∧ W.cell? ⟨z, 2, none⟩ = some (.slice ao n cap) := by simp [World.cell?, k1]
  have c2 : W.cell? ⟨z + 1, 0, none⟩ = some (.int .i64 E) ∧ W.cell? ⟨z + 1, 1, none⟩ = some (.int .i64 At) ∧ W.cell? ⟨z + 1, 2, none⟩ = some (.slice bo n cup) := by simp [World.cell?, k2]
  obtain ⟨c10, c11, c12⟩ := c1
  obtain ⟨c20, c21, c22⟩ := c2
  clear h h2 h3 h4 b1 b2 k1 k2 hn hl hm hk
  go_enter Tryz.func20, Tryz.ntmps20
  go_wp2_with fail
  clear hW hz
  refine HV.out.mono ?_
  rintro e w1 ⟨rfl, hb1⟩
  have k1 := (hb1.block z (Array.getElem?_eq_some_iff.1 HK.out.2.1).1).trans HK.out.2.1
  have k2 := (hb1.block (z + 1) (Array.getElem?_eq_some_iff.1 HK.out.2.2.1).1).trans HK.out.2.2.1
  have c13 : w1.cell? ⟨z, 3, none⟩ = some (.slice xo m cx) := by simp [World.cell?, k1]
  have c23 : w1.cell? ⟨z + 1, 3, none⟩ = some (.slice yo m cy) := by simp [World.cell?, k2]
  have hb := HK.out.1.trans (hb1.mono HK.out.1.size)
  have HN := Lib.hid (same_nums D D2 _ _ m ks w1 (row_turned HK.out.2.2.2.1 (below_any (G := fun _ => False) hb) (fun _ _ h => h)) (row_turned HK.out.2.2.2.2.1 (below_any (G := fun _ => False) hb) (fun _ _ h => h)) HK.out.2.2.2.2.2.1 HK.out.2.2.2.2.2.2.1)
  have HB := Lib.hid hb
  clear c10 c11 c12 c20 c21 c22 k1 k2 hb hb1
  go_wp2_with fail
  refine HN.out.mono ?_
  rintro e w2 ⟨rfl, hb2⟩
  have HB2 := Lib.hid (HB.out.trans (hb2.mono HB.out.size))
  clear hb2
  go_wp2_with fail
  go_ret
  exact ⟨rfl, HB2.out⟩
end Go.Proofs.YtafenkepigmcaaaGreatDoor.Gr
