/- place: the law on a vertex' home, walked. -/
import Derived.Test.YtlpbldkblchkpaaB1
namespace Go.Proofs.Ytlpbldkblchkpaa.Pl
open Go Go.RowKit
theorem mv_put (n : Int) {i : Nat} (hi : i < 40) (v o e : Int) (he : e ≠ 0) : (mv (rows (put (home n) i (v, o, e)))).length = 1 := by
  have h : ∀ i, i < 40 → ((List.range 40).filter (fun k => decide (k = i))).length = 1 := by decide
  unfold mv rows
  rw [List.filter_map, List.length_map, ← h i hi]
  congr 1
  apply List.filter_congr
  intro k _
  by_cases hk : k = i
  · simp [put, hk, he]
  · simp [put, hk, home]
theorem put_put {α : Type} (f : Nat → α) (i : Nat) (x y : α) : put (put f i x) i y = put f i y := by
  funext j
  unfold put
  by_cases h : j = i <;> simp [h]
theorem put_same {α : Type} (f : Nat → α) (i : Nat) : put f i (f i) = f := by
  funext j
  unfold put
  by_cases h : j = i <;> simp [h]
/-- The directory in which the vertex alone has moved. -/
def one (n : Int) (i : Nat) (o e : Int) : Nat → Ent := put (home n) i (1 + (i : Int), o, e)
theorem one_at (n : Int) (i : Nat) (o e : Int) : one n i o e i = (1 + (i : Int), o, e) := by simp [one, put]
theorem at_one (i : Nat) : at_ (1 + (i : Int)) = i := by unfold at_; omega
theorem ok_one {i : Nat} (h : i < 40) : okV (1 + (i : Int)) := by unfold okV; omega
theorem one_home (n : Int) (i : Nat) : one n i ((1 + (i : Int)) % n) 0 = home n := by
  unfold one
  rw [show (1 + (i : Int), (1 + (i : Int)) % n, (0 : Int)) = home n i from by unfold home; rw [Int.add_comm]]
  exact put_same _ _
theorem one_moveE {n : Int} {i : Nat} (hi : i < 40) (o e x ep : Int) (hx : x < n) : moveE n (one n i o e) (1 + (i : Int)) x ep = if ep ≤ e then 15 else 0 := by
  unfold moveE
  rw [if_neg (not_not_intro ⟨hx, ok_one hi⟩), at_one, one_at]
theorem one_moveG {n : Int} {i : Nat} (hi : i < 40) (o e x ep : Int) (hx : x < n) : moveG n (one n i o e) (1 + (i : Int)) x ep = if ep ≤ e then one n i o e else one n i x ep := by
  unfold moveG
  rw [one_moveE hi o e x ep hx]
  by_cases h : ep ≤ e
  · simp [h]
  · rw [if_neg h, if_pos rfl, if_neg h, at_one, one_at]
    exact put_put _ _ _ _
theorem one_stale {w : World} {b : Nat} {n : Int} {i : Nat} {o e : Int} (h : DirAt w b n (one n i o e)) (hi : i < 40) (x ep : Int) (hx : x < n) (x0 : 0 ≤ x) (x1 : x ≤ 255) (he : ep ≤ e) :
    Calls Try.prog 8 #[.pointer (some ⟨b, 0, none⟩), .int .u32 (1 + (i : Int)), .int .u8 x, .int .u32 ep] w fun e' w' => e' = .returned (.int .i64 15) ∧ DirAt w' b n (one n i o e) ∧ Did b w w' := by
  have := move_any h (1 + (i : Int)) x ep x0 x1
  rwa [one_moveE hi o e x ep hx, one_moveG hi o e x ep hx, if_pos he, if_pos he] at this
theorem one_fresh {w : World} {b : Nat} {n : Int} {i : Nat} {o e : Int} (h : DirAt w b n (one n i o e)) (hi : i < 40) (x ep : Int) (hx : x < n) (x0 : 0 ≤ x) (x1 : x ≤ 255) (he : e < ep) :
    Calls Try.prog 8 #[.pointer (some ⟨b, 0, none⟩), .int .u32 (1 + (i : Int)), .int .u8 x, .int .u32 ep] w fun e' w' => e' = .returned (.int .i64 0) ∧ DirAt w' b n (one n i x ep) ∧ Did b w w' := by
  have := move_any h (1 + (i : Int)) x ep x0 x1
  rwa [one_moveE hi o e x ep hx, one_moveG hi o e x ep hx, if_neg (by omega), if_neg (by omega)] at this
theorem one_owner {w : World} {b : Nat} {n : Int} {i : Nat} {o e : Int} (h : DirAt w b n (one n i o e)) (hi : i < 40) :
    Calls Try.prog 11 #[.pointer (some ⟨b, 0, none⟩), .int .u32 (1 + (i : Int))] w fun e' w' => e' = .returned (.tuple #[.agg #[.int .u32 (1 + (i : Int)), .int .u8 o, .int .u32 e], .int .i64 0]) ∧ Below w.heap.size w w' := by
  have := owner_ok h (1 + (i : Int)) (ok_one hi)
  rwa [at_one, one_at] at this
theorem one_list {w : World} {b : Nat} {n : Int} {i : Nat} {o e : Int} (h : DirAt w b n (one n i o e)) (hi : i < 40) (he : e ≠ 0) :
    Calls Try.prog 10 #[.pointer (some ⟨b, 0, none⟩)] w fun e' w' => (∃ ao cap, e' = .returned (.slice ao 1 cap)) ∧ Below w.heap.size w w' := by
  refine (list_any h).mono ?_
  rintro e' w' ⟨v, rfl, ho, hb⟩
  obtain ⟨ao, cap, rfl, _⟩ := rd_own ho
  rw [show (mv (rows (one n i o e))).length = 1 from mv_put n hi _ _ _ he]
  exact ⟨⟨ao, cap, rfl⟩, hb⟩
/-- Bytes that stand from an address on. -/
def Rd (w : World) (ao : Option Addr) (l : List Int) : Prop :=
  ∀ k x, l[k]? = some x → ∃ b off, ao = some ⟨b, off, none⟩ ∧ b < w.heap.size ∧ w.cell? ⟨b, off + k, none⟩ = some (.int .u8 x)
theorem Rd.on {w w' : World} {ao : Option Addr} {l : List Int} (h : Rd w ao l) {B : Nat} (hb : Below B w w') (hB : w.heap.size ≤ B) : Rd w' ao l := fun k x hx => by
  obtain ⟨b, off, h1, h2, h3⟩ := h k x hx
  exact ⟨b, off, h1, Nat.lt_of_lt_of_le h2 hb.size, (hb.cell (p := ⟨b, off + k, none⟩) (by simp; omega)).trans h3⟩
/-- The vertex alone has moved, and the law's entry stands. -/
structure HomeS (w0 : World) (b z : Nat) (n : Int) (i : Nat) (o e : Int) (w : World) : Prop where
  dir : DirAt w b n (one n i o e)
  own : ∃ t : Ent, w.heap[z]? = some (.cells #[.int .u32 t.1, .int .u8 t.2.1, .int .u32 t.2.2] 37 (0, 0))
  low : Below w0.heap.size w0 w
  b0 : w0.heap.size ≤ b
  z0 : w0.heap.size ≤ z
  ne : z ≠ b
section
variable {w0 w : World} {b z : Nat} {n : Int} {i : Nat} {o e : Int}
theorem HomeS.on {w' : World} (h : HomeS w0 b z n i o e w) (hb : Below w.heap.size w w') : HomeS w0 b z n i o e w' :=
  ⟨h.dir.on (Z := fun _ => False) (below_any hb) id, by
    obtain ⟨t, ht⟩ := h.own
    exact ⟨t, (hb.block z (Array.getElem?_eq_some_iff.1 ht).1).trans ht⟩, h.low.trans (hb.mono h.low.size), h.b0, h.z0, h.ne⟩
theorem HomeS.did {w' : World} {o' e' : Int} (h : HomeS w0 b z n i o e w) (hd : DirAt w' b n (one n i o' e')) (ht : Did b w w') : HomeS w0 b z n i o' e' w' :=
  ⟨hd, by
    obtain ⟨t, hz⟩ := h.own
    exact ⟨t, (ht.block z (Array.getElem?_eq_some_iff.1 hz).1 h.ne).trans hz⟩, did_below h.low ht h.b0 h.low.size, h.b0, h.z0, h.ne⟩
theorem HomeS.fresh (h : HomeS w0 b z n i o e w) (hi : i < 40) (x ep : Int) (hx : x < n) (x0 : 0 ≤ x) (x1 : x ≤ 255) (he : e < ep) :
    Calls Try.prog 8 #[.pointer (some ⟨b, 0, none⟩), .int .u32 (1 + (i : Int)), .int .u8 x, .int .u32 ep] w fun e' w' => e' = .returned (.int .i64 0) ∧ HomeS w0 b z n i x ep w' :=
  (one_fresh h.dir hi x ep hx x0 x1 he).mono fun _ _ ⟨h1, h2, h3⟩ => ⟨h1, h.did h2 h3⟩
theorem HomeS.stale (h : HomeS w0 b z n i o e w) (hi : i < 40) (x ep : Int) (hx : x < n) (x0 : 0 ≤ x) (x1 : x ≤ 255) (he : ep ≤ e) :
    Calls Try.prog 8 #[.pointer (some ⟨b, 0, none⟩), .int .u32 (1 + (i : Int)), .int .u8 x, .int .u32 ep] w fun e' w' => e' = .returned (.int .i64 15) ∧ HomeS w0 b z n i o e w' :=
  (one_stale h.dir hi x ep hx x0 x1 he).mono fun _ _ ⟨h1, h2, h3⟩ => ⟨h1, h.did h2 h3⟩
theorem HomeS.owner (h : HomeS w0 b z n i o e w) (hi : i < 40) :
    Calls Try.prog 11 #[.pointer (some ⟨b, 0, none⟩), .int .u32 (1 + (i : Int))] w fun e' w' => e' = .returned (.tuple #[.agg #[.int .u32 (1 + (i : Int)), .int .u8 o, .int .u32 e], .int .i64 0]) ∧ HomeS w0 b z n i o e w' :=
  (one_owner h.dir hi).mono fun _ _ ⟨h1, h2⟩ => ⟨h1, h.on h2⟩
theorem HomeS.list (h : HomeS w0 b z n i o e w) (hi : i < 40) (he : e ≠ 0) :
    Calls Try.prog 10 #[.pointer (some ⟨b, 0, none⟩)] w fun e' w' => (∃ ao cap, e' = .returned (.slice ao 1 cap)) ∧ HomeS w0 b z n i o e w' :=
  (one_list h.dir hi he).mono fun _ _ ⟨h1, h2⟩ => ⟨h1, h.on h2⟩
theorem HomeS.cells (h : HomeS w0 b z n i o e w) : ∃ t : Ent, w.cell? ⟨z, 0, none⟩ = some (.int .u32 t.1) ∧ w.cell? ⟨z, 1, none⟩ = some (.int .u8 t.2.1) ∧ w.cell? ⟨z, 2, none⟩ = some (.int .u32 t.2.2) ∧ ∀ j, w.frozen? ⟨z, j, none⟩ = false := by
  obtain ⟨t, ht⟩ := h.own
  exact ⟨t, by simp [World.cell?, ht], by simp [World.cell?, ht], by simp [World.cell?, ht], fun j => by simp [World.frozen?, ht]⟩
theorem HomeS.set3 (h : HomeS w0 b z n i o e w) (t : Ent) : HomeS w0 b z n i o e (((w.setCell ⟨z, 0, none⟩ (.int .u32 t.1)).setCell ⟨z, 1, none⟩ (.int .u8 t.2.1)).setCell ⟨z, 2, none⟩ (.int .u32 t.2.2)) := by
  have hT : Turned (fun k => k = z) w (((w.setCell ⟨z, 0, none⟩ (.int .u32 t.1)).setCell ⟨z, 1, none⟩ (.int .u8 t.2.1)).setCell ⟨z, 2, none⟩ (.int .u32 t.2.2)) := ((turned_set _ _ _ _).then (turned_set _ _ _ _)).then (turned_set _ _ _ _)
  obtain ⟨s, hs⟩ := h.own
  exact ⟨h.dir.on hT (fun e => h.ne e.symm), ⟨t, set_block (set_block (set_block hs))⟩, did_below h.low hT h.z0 h.low.size, h.b0, h.z0, h.ne⟩
end
set_option maxRecDepth 100000 in
set_option maxHeartbeats 4000000 in
theorem home_law (a : Int) (v : Int) (ao : Option Addr) (c : Nat) (L : List Int) (w : World) (a0 : 0 ≤ a) (a1 : a ≤ 255) (v0 : 0 ≤ v) (hr : Rd w ao L) (hi : ∀ x ∈ L, 0 ≤ x ∧ x ≤ 255) (hlm : L.length ≤ maxLen) :
    Calls Try.prog 5 #[.int .u8 a, .int .u32 v, .slice ao L.length c] w fun e w' => e = .returned (.bool true) ∧ Below w.heap.size w w' := by
  obtain ⟨k, hk, hk4⟩ : ∃ k : Nat, a % 4 = (k : Int) ∧ k < 4 := ⟨(a % 4).toNat, by omega, by omega⟩
  obtain ⟨i, hvi, hi40⟩ : ∃ i : Nat, v % 40 = (i : Int) ∧ i < 40 := ⟨(v % 40).toNat, by omega, by omega⟩
  have HL := Lib.hid (And.intro hr hi)
  unfold maxLen at hlm
  obtain ⟨l, hl⟩ : ∃ l, L.length = l := ⟨_, rfl⟩
  rw [hl] at hlm ⊢
  have HN := Lib.hid hl
  clear hr hi hl
  have hA := awake_any w
  go_enter Try.func5, Try.ntmps5
  go_wp2_with (go_at_call 6; refine hA.mono ?_; rintro e w1 ⟨rfl, hb⟩; have A1 := Lib.hid hb; clear hb)
  refine (new_any (1 + (k : Int)) w1 (by omega) (by omega)).mono ?_
  rintro e w2 ⟨rfl, hd, hs, hb⟩
  rw [← one_home _ i] at hd
  have H2 := Lib.hid (And.intro hd (And.intro hs (A1.out.trans (hb.mono A1.out.size))))
  have HO := one_owner hd hi40
  clear hd hs hb hA
  go_wp2_with fail
  refine HO.mono ?_
  rintro e w3 ⟨rfl, hb3⟩
  have A3 := Lib.hid (H2.out.2.2.trans (hb3.mono H2.out.2.2.size))
  have hsz := hb3.size
  have HD := Lib.hid (And.intro (H2.out.1.on (Z := fun _ => False) (below_any hb3) id) hsz)
  clear hb3 HO hsz
  have hneq := run_neq37 (1 + (i : Int), (1 + (i : Int)) % (1 + (k : Int)), 0) (1 + (i : Int), (1 + (i : Int)) % (1 + (k : Int)), 0)
  rw [eqE_iff] at hneq
  simp only [ev, decide_true, Bool.not_true] at hneq
  have e1 : IntKind.u32.wrap (1 + (k : Int)) = 1 + (k : Int) := by simp [IntKind.wrap, IntKind.bits, IntKind.signed]; omega
  have e2 : (1 + (i : Int)) % (1 + (k : Int)) % 256 = (1 + (i : Int)) % (1 + (k : Int)) := by
    have := Int.emod_lt_of_pos (1 + (i : Int)) (b := 1 + (k : Int)) (by omega)
    have := Int.emod_nonneg (1 + (i : Int)) (show 1 + (k : Int) ≠ 0 by omega)
    omega
  go_wp2_with fail
  go_quiet (fail)
  have HI : Hid (HomeS w w1.heap.size w3.heap.size (1 + (k : Int)) i ((1 + (i : Int)) % (1 + (k : Int))) 0 ((w3.alloc (.cells #[.int .u32 (1 + (i : Int)), .int .u8 ((1 + (i : Int)) % (1 + (k : Int))), .int .u32 0] 37)).drewN nq)) := by
    have hb := Below.refl w3.heap.size w3 |>.alloc (Nat.le_refl _) (.cells #[.int .u32 (1 + (i : Int)), .int .u8 ((1 + (i : Int)) % (1 + (k : Int))), .int .u32 0] 37) |>.trans ((Below.drewN_refl _ nq).mono (by simp))
    have h1 := A1.out.size
    have h2 := H2.out.2.1
    have h3 := HD.out.2
    exact Lib.hid ⟨HD.out.1.on (Z := fun _ => False) (below_any hb) id, ⟨(_, _, _), heap_alloc_new w3 _⟩, (A3.out.alloc A3.out.size _).trans ((Below.drewN_refl _ _).mono (by have := A3.out.size; simp; omega)), h1, by omega, by omega⟩
  have HB := Lib.hid (And.intro hi40 (And.intro hk4 hlm))
  generalize (w3.alloc (.cells #[.int .u32 (1 + (i : Int)), .int .u8 ((1 + (i : Int)) % (1 + (k : Int))), .int .u32 0] 37)).drewN nq = W at HI ⊢
  clear hneq e1 e2
  generalize w1.heap.size = b at *
  generalize w3.heap.size = z at *
  go_wp2_with fail
  go_loopw [51] (fun u wr => ∃ j : Nat, j ≤ l ∧ j ≤ 50 ∧ u = .int .i64 j ∧ ∃ o, Hid (HomeS w b z (1 + (k : Int)) i o j wr)) (fun u _ => l - (intOf u).toNat)
  case atStart => exact ⟨0, by omega, by omega, rfl, _, HI⟩
  case round =>
    obtain ⟨j, hj, hj50, rfl, o, HA⟩ := hrel
    by_cases hlt : j < l
    · obtain ⟨x, hx⟩ : ∃ x, L[j]? = some x := ⟨_, List.getElem?_eq_getElem (by have := HN.out; omega)⟩
      obtain ⟨g, og, rfl, _, c1⟩ := (HL.out.1.on HA.out.low (Nat.le_refl _)) j x hx
      have hx2 := HL.out.2 x (List.mem_of_getElem? hx)
      clear hx
      have j1 : (j : Int) < (l : Int) := by omega
      by_cases h50 : (50 : Int) ≤ (j : Int)
      · go_wp2_with fail
        go_ret
        exact ⟨rfl, HA.out.low⟩
      · have hk0 : IntKind.u8.wrap (1 + (k : Int)) = 1 + (k : Int) := by simp [IntKind.wrap, IntKind.bits, IntKind.signed]; omega
        obtain ⟨y, hy, hy0, hyk⟩ : ∃ y : Int, x % (1 + (k : Int)) = y ∧ 0 ≤ y ∧ y < 1 + (k : Int) := ⟨_, rfl, Int.emod_nonneg _ (by omega), Int.emod_lt_of_pos _ (by omega)⟩
        have HY := Lib.hid (And.intro hy0 (And.intro hyk h50))
        go_wp2_with fail
        refine (HA.out.fresh HB.out.1 y ((j : Int) + 1) HY.out.2.1 HY.out.1 (by have := HY.out.2.1; have := HB.out.2.1; omega) (by omega)).mono ?_
        rintro e w4 ⟨rfl, ha⟩
        have A4 := Lib.hid ha
        clear ha
        go_wp2_with fail
        refine (A4.out.stale HB.out.1 y ((j : Int) + 1) HY.out.2.1 HY.out.1 (by have := HY.out.2.1; have := HB.out.2.1; omega) (by omega)).mono ?_
        rintro e w5 ⟨rfl, ha⟩
        have A5 := Lib.hid ha
        clear ha
        go_wp2_with fail
        refine (A5.out.stale HB.out.1 0 (j : Int) (by have := HY.out.2.1; have := HY.out.1; omega) (by decide) (by decide) (by omega)).mono ?_
        rintro e w6 ⟨rfl, ha⟩
        have A6 := Lib.hid ha
        clear ha
        go_wp2_with fail
        refine (A6.out.owner HB.out.1).mono ?_
        rintro e w7 ⟨rfl, ha⟩
        obtain ⟨s, z0, z1, z2, zf⟩ := ha.cells
        have A7 := Lib.hid (ha.set3 (1 + (i : Int), y, (j : Int) + 1))
        clear ha
        have hneq := run_neq37 (1 + (i : Int), y, (j : Int) + 1) (1 + (i : Int), y, (j : Int) + 1)
        rw [eqE_iff] at hneq
        simp only [ev, decide_true, Bool.not_true] at hneq
        go_wp2_with fail
        refine (A7.out.list HB.out.1 (by omega)).mono ?_
        rintro e w8 ⟨⟨ao8, c8, rfl⟩, ha⟩
        have A8 := Lib.hid ha
        clear ha
        go_wp2_with fail
        exact ⟨⟨j + 1, by omega, by have := HY.out.2.2; omega, by go_num, y, by have := A8.out; rwa [show ((j + 1 : Nat) : Int) = (j : Int) + 1 by omega]⟩, by simp [intOf]; omega⟩
    · obtain rfl : j = l := by omega
      go_wp2_with fail
      go_ret
      exact ⟨rfl, HA.out.low⟩
end Go.Proofs.Ytlpbldkblchkpaa.Pl
