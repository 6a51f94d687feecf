/- fault: the law on the last place, walked. -/
import Derived.Test.YtkhnjgadagkpjaaDoorG7
namespace Go.Proofs.YtkhnjgadagkpjaaDoor.Flt
open Go Go.RowKit Go.Stop Go.Shelf
/-- From an address on these links stand. -/
def At2 (w : World) (ao : Option Addr) (X : Nat → Int × Int) (n : Nat) : Prop :=
  ∀ i, i < n → ∃ b off, ao = some ⟨b, off, none⟩ ∧ b < w.heap.size ∧ w.cell? ⟨b, off + i * 2, none⟩ = some (.int .i64 (X i).1) ∧ w.cell? ⟨b, off + i * 2 + 1, none⟩ = some (.int .u32 (X i).2)
theorem At2.on {w w' : World} {ao : Option Addr} {X : Nat → Int × Int} {n : Nat} (h : At2 w ao X n) {B : Nat} (hb : Below B w w') (hB : w.heap.size ≤ B) : At2 w' ao X n := fun i hi => by
  obtain ⟨b, off, h1, h2, h3, h4⟩ := h i hi
  exact ⟨b, off, h1, Nat.lt_of_lt_of_le h2 hb.size, (hb.cell (p := ⟨b, off + i * 2, none⟩) (Nat.lt_of_lt_of_le h2 hB)).trans h3, (hb.cell (p := ⟨b, off + i * 2 + 1, none⟩) (Nat.lt_of_lt_of_le h2 hB)).trans h4⟩
/-- The chain's links behind j rounds. -/
def links (X : Nat → Int × Int) : Nat → List (Int × Int)
  | 0 => [(-1, 0)]
  | j + 1 => X j :: links X j
theorem links_length (X : Nat → Int × Int) (j : Nat) : (links X j).length = j + 1 := by
  induction j with
  | zero => rfl
  | succ j ih => simp [links, ih]
theorem links_last (X : Nat → Int × Int) (j : Nat) : ∃ K, K.length = j ∧ links X j = K ++ [(-1, 0)] := by
  induction j with
  | zero => exact ⟨[], rfl, rfl⟩
  | succ j ih =>
    obtain ⟨K, h1, h2⟩ := ih
    exact ⟨X j :: K, by simp [h1], by rw [links, h2]; rfl⟩
/-- A row of the call's own that holds links. -/
theorem row_links {w : World} {B e : Nat} {v : Value} {L : List (Int × Int)} (h : w.ownsRow B e 2 v L.length (lflat L)) (hL : 0 < L.length) : ∃ g c, v = .slice (some ⟨g, 0, none⟩) L.length c ∧ B ≤ g ∧ g < w.heap.size ∧ ∀ j u, (lflat L)[j]? = some u → w.cell? ⟨g, j, none⟩ = some u := by
  have h' := h
  rcases h'.2 with ⟨h1, h2⟩ | ⟨g, cap, _, h1, _⟩
  · omega
  · subst h1
    have hlt := World.ownsRow.lt h g rfl
    refine ⟨g, cap, rfl, hlt.1, hlt.2, fun j u hu => ?_⟩
    have hj : j < L.length * 2 := by rw [← lflat_len]; exact (List.getElem?_eq_some_iff.1 hu).1
    rw [h.cellAt j hj, hu]
theorem last_cells {w : World} {g j : Nat} {X : Nat → Int × Int} (hc : ∀ i u, (lflat (links X (j + 1)))[i]? = some u → w.cell? ⟨g, i, none⟩ = some u) :
    (w.cell? ⟨g, 0, none⟩ = some (.int .i64 (X j).1) ∧ w.cell? ⟨g, 1, none⟩ = some (.int .u32 (X j).2)) ∧ (w.cell? ⟨g, (j + 1) * 2, none⟩ = some (.int .i64 (-1)) ∧ w.cell? ⟨g, (j + 1) * 2 + 1, none⟩ = some (.int .u32 0)) := by
  obtain ⟨K, h1, h2⟩ := links_last X (j + 1)
  have ha := lflat_at [] (links X j) (X j)
  have hb := lflat_at K [] (-1, 0)
  rw [← h2, h1] at hb
  have e : [] ++ X j :: links X j = links X (j + 1) := rfl
  rw [e] at ha
  exact ⟨⟨hc 0 _ ha.1, hc 1 _ ha.2⟩, hc _ _ hb.1, hc _ _ hb.2⟩
theorem six_on {w w' : World} {a b k : Nat} {v0 v1 v2 v3 v4 v5 : Value} (h : (w.cell? ⟨a, 0, none⟩ = some v0 ∧ w.cell? ⟨a, 1, none⟩ = some v1) ∧ (w.cell? ⟨b, 0, none⟩ = some v2 ∧ w.cell? ⟨b, 1, none⟩ = some v3) ∧ (w.cell? ⟨b, k, none⟩ = some v4 ∧ w.cell? ⟨b, k + 1, none⟩ = some v5)) (hb : Below w.heap.size w w') (ha : a < w.heap.size) (hb' : b < w.heap.size) :
    (w'.cell? ⟨a, 0, none⟩ = some v0 ∧ w'.cell? ⟨a, 1, none⟩ = some v1) ∧ (w'.cell? ⟨b, 0, none⟩ = some v2 ∧ w'.cell? ⟨b, 1, none⟩ = some v3) ∧ (w'.cell? ⟨b, k, none⟩ = some v4 ∧ w'.cell? ⟨b, k + 1, none⟩ = some v5) :=
  ⟨⟨(hb.cell (p := ⟨a, 0, none⟩) ha).trans h.1.1, (hb.cell (p := ⟨a, 1, none⟩) ha).trans h.1.2⟩, ⟨(hb.cell (p := ⟨b, 0, none⟩) hb').trans h.2.1.1, (hb.cell (p := ⟨b, 1, none⟩) hb').trans h.2.1.2⟩, (hb.cell (p := ⟨b, k, none⟩) hb').trans h.2.2.1, (hb.cell (p := ⟨b, k + 1, none⟩) hb').trans h.2.2.2⟩
set_option maxRecDepth 100000 in
set_option maxHeartbeats 8000000 in
theorem last (ao : Option Addr) (n c : Nat) (X : Nat → Int × Int) (code : Int) (w : World) (_hn : n ≤ maxLen) (hA : At2 w ao X n) (c0 : 0 ≤ code) (c1 : code ≤ 255) (hg : ErrT w) :
    Calls Tryd.prog 5 #[.slice ao n c, .int .u8 code] w fun e w' => e = .returned (.bool true) ∧ Below w.heap.size w w' := by
  unfold maxLen at _hn
  have HG := Lib.hid hg
  have HA := Lib.hid hA
  clear hg hA
  go_enter Tryd.func5, Tryd.ntmps5
  go_wp2_with fail
  refine (awake_any _ HG.out).mono ?_
  rintro e w1 ⟨rfl, hb⟩
  have HB1 := Lib.hid hb
  have HG1 := Lib.hid (HG.out.on hb)
  clear hb
  go_wp2_with fail
  have r0 : 1 ≤ 1 + code % 15 := by omega
  have r1 : 1 + code % 15 ≤ 15 := by omega
  generalize 1 + code % 15 = R at *
  have hR : (R == 0) = false := by rw [beq_eq_false_iff_ne]; omega
  refine (new_ok R (-1) 0 _ hR).mono ?_
  rintro e w2 ⟨rfl, rfl⟩
  have hC := chain_wrap (show Chain w1 (.iface 30 (.int .i64 R)) [] R from rfl) (-1) 0
  have hB := HB1.out.alloc HB1.out.size (.cells #[.int .i64 (-1), .int .u32 0, .iface 30 (.int .i64 R)] 55)
  have hG := HG1.out.on (box_below w1 (.cells #[.int .i64 (-1), .int .u32 0, .iface 30 (.int .i64 R)] 55))
  generalize (w1.alloc (.cells #[.int .i64 (-1), .int .u32 0, .iface 30 (.int .i64 R)] 55)) = w2 at *
  generalize w1.heap.size = s1 at *
  clear HB1 HG1
  go_wp2_with fail
  go_loopw [6, 20] (fun v i wr => ∃ j : Nat, j ≤ n ∧ i = .int .i64 j ∧ Chain wr v (links X j) R ∧ Below w.heap.size w wr ∧ ErrT wr) (fun _ i _ => n - (intOf i).toNat)
  case atStart => exact ⟨0, Nat.zero_le _, rfl, hC, hB, hG⟩
  case round =>
    obtain ⟨j, hj, rfl, hch, hbl, hge⟩ := hrel
    have HC := Lib.hid hch
    have HB := Lib.hid hbl
    have HE := Lib.hid hge
    obtain ⟨tt, xx, rfl⟩ := chain_some hch
    clear hC hB hG hch hbl hge
    by_cases hlt : j < n
    · obtain ⟨b, off, rfl, hb, e0, e1⟩ := HA.out.on HB.out (Nat.le_refl _) j hlt
      obtain ⟨x0, hx0⟩ : ∃ z, z = (X j).1 := ⟨_, rfl⟩
      obtain ⟨x1, hx1⟩ : ∃ z, z = (X j).2 := ⟨_, rfl⟩
      rw [← hx0] at e0
      rw [← hx1] at e1
      have HX := Lib.hid (show X j = (x0, x1) by rw [hx0, hx1])
      clear hx0 hx1
      by_cases h200 : 200 ≤ j
      · have HC9 := Lib.hid (HC.out.on (box_below wr (.cells #[.int .i64 x0, .int .u32 x1] 42)) (Nat.le_refl _))
        have HB9 := Lib.hid (HB.out.alloc HB.out.size (.cells #[.int .i64 x0, .int .u32 x1] 42))
        go_wp2_with fail
        refine (is_chain _ _ R R _ HC9.out hR).mono ?_
        rintro e w8 ⟨rfl, hb8⟩
        have HC8 := Lib.hid (HC9.out.on hb8 (Nat.le_refl _))
        have HB8 := Lib.hid (HB9.out.trans (hb8.mono HB9.out.size))
        have hR1 : ((R + 1) == 0) = false := by rw [beq_eq_false_iff_ne]; omega
        have hR2 : (R == R + 1) = false := by rw [beq_eq_false_iff_ne]; omega
        clear hb8
        go_wp2_with fail
        refine (is_chain _ _ R (R + 1) _ HC8.out hR1).mono ?_
        rintro e w9 ⟨rfl, hb8⟩
        have HB7 := Lib.hid (HB8.out.trans (hb8.mono HB8.out.size))
        rw [hR2]
        clear hb8
        go_wp2_with fail
        go_ret
        exact ⟨rfl, HB7.out⟩
      · go_wp2_with fail
        refine (wrap_any tt xx x0 x1 _).mono ?_
        rintro e w5 ⟨rfl, rfl⟩
        have hc8 := HC.out.on (box_below wr (.cells #[.int .i64 x0, .int .u32 x1] 42)) (Nat.le_refl _)
        have hC5 := chain_wrap hc8 x0 x1
        rw [← HX.out] at hC5
        have hC5' : Chain _ _ (links X (j + 1)) R := hC5
        have hb8 := (box_below wr (.cells #[.int .i64 x0, .int .u32 x1] 42))
        have hb9 := hb8.trans ((box_below (wr.alloc (.cells #[.int .i64 x0, .int .u32 x1] 42)) (.cells #[.int .i64 x0, .int .u32 x1, .iface tt xx] 55)).mono (by simp))
        have HB5 := Lib.hid (HB.out.trans (hb9.mono HB.out.size))
        have HE5 := Lib.hid (HE.out.on hb9)
        have k0 : ((wr.alloc (.cells #[.int .i64 x0, .int .u32 x1] 42)).alloc (.cells #[.int .i64 x0, .int .u32 x1, .iface tt xx] 55)).cell? ⟨wr.heap.size, 0, none⟩ = some (.int .i64 x0) := (World.cell?_alloc_past _ _ 0 (by simp)).trans (by rw [World.cell?_alloc_new]; rfl)
        have k1 : ((wr.alloc (.cells #[.int .i64 x0, .int .u32 x1] 42)).alloc (.cells #[.int .i64 x0, .int .u32 x1, .iface tt xx] 55)).cell? ⟨wr.heap.size, 1, none⟩ = some (.int .u32 x1) := (World.cell?_alloc_past _ _ 1 (by simp)).trans (by rw [World.cell?_alloc_new]; rfl)
        have z8 : wr.heap.size < ((wr.alloc (.cells #[.int .i64 x0, .int .u32 x1] 42)).alloc (.cells #[.int .i64 x0, .int .u32 x1, .iface tt xx] 55)).heap.size := by simp; omega
        simp only [World.size_alloc] at hC5'
        clear hC5 hc8 hb8 hb9 e0 e1 HE HC HB
        simp only [World.size_alloc]
        generalize ((wr.alloc (.cells #[.int .i64 x0, .int .u32 x1] 42)).alloc (.cells #[.int .i64 x0, .int .u32 x1, .iface tt xx] 55)) = w5 at *
        generalize wr.heap.size = s8 at *
        have HC5 := Lib.hid hC5'
        clear hC5'
        go_wp2_with fail
        refine (links_any _ (links X (j + 1)) R w5 HC5.out (by rw [links_length]; omega)).mono ?_
        rintro e w6 ⟨v6, rfl, ho, hb⟩
        obtain ⟨g, c6, rfl, _, hg6, hcs⟩ := row_links ho (by rw [links_length]; omega)
        have HB6 := Lib.hid hb
        have HT6 := Lib.hid (turned g c6 (links X (j + 1)) w6 hg6 (by rw [links_length]; omega) hcs)
        clear ho hb hcs
        go_wp2_with fail
        refine HT6.out.mono ?_
        rintro e w7 ⟨v7, rfl, ho, hb⟩
        obtain ⟨g2, c7, rfl, _, hg7, hcs⟩ := row_links ho (by rw [links_length]; omega)
        have hl := last_cells hcs
        rw [HX.out] at hl
        simp only at hl
        rw [links_length]
        have hb7 := HB6.out.trans (hb.mono HB6.out.size)
        have HC7 := Lib.hid (HC5.out.on hb7 (Nat.le_refl _))
        have HB7 := Lib.hid (HB5.out.trans (hb7.mono HB5.out.size))
        have HE7 := Lib.hid (HE5.out.on hb7)
        have d0 := (hb7.cell (p := ⟨s8, 0, none⟩) z8).trans k0
        have d1 := (hb7.cell (p := ⟨s8, 1, none⟩) z8).trans k1
        have z7 : s8 < w7.heap.size := Nat.lt_of_lt_of_le z8 hb7.size
        clear ho hb hcs hb7 k0 k1 HB6 HT6 HC5 HB5 HE5
        obtain ⟨⟨l0, l1⟩, l2, l3⟩ := hl
        have hj2 : (j : Int) + 2 < 1000 := by omega
        have hw2 : IntKind.i64.wrap ((j : Int) + 2) = (j : Int) + 2 := by simp [IntKind.wrap, IntKind.bits, IntKind.signed]; omega
        have hw1 : IntKind.i64.wrap ((j : Int) + 1) = (j : Int) + 1 := by simp [IntKind.wrap, IntKind.bits, IntKind.signed]; omega
        have i1 : (0 : Int) ≤ IntKind.i64.wrap ((j : Int) + 1) := by omega
        have i2 : IntKind.i64.wrap ((j : Int) + 1) < (j : Int) + 1 + 1 := by omega
        have i3 : (IntKind.i64.wrap ((j : Int) + 1)).toNat = j + 1 := by omega
        have i4 : ((j : Int) + 1 + 1 == IntKind.i64.wrap ((j : Int) + 2)) = true := by rw [beq_iff_eq]; omega
        have i5 : (0 : Int) < (j : Int) + 1 + 1 := by omega
        have i6 : ((j : Int) + 1 + 1 != (j : Int) + 2) = false := by rw [bne_eq_false_iff_eq]; omega
        have i7 : (j : Int) + 1 < (j : Int) + 1 + 1 := by omega
        have i8 : (0 : Int) ≤ (j : Int) + 1 := by omega
        go_wp2_with fail
        have Y0 := Lib.hid (And.intro (And.intro d0 d1) (And.intro (And.intro l0 l1) (And.intro l2 l3)))
        go_region_held3 (fun w' => (w'.cell? ⟨s8, 0, none⟩ = some (.int .i64 x0) ∧ w'.cell? ⟨s8, 1, none⟩ = some (.int .u32 x1)) ∧ (w'.cell? ⟨g2, 0, none⟩ = some (.int .i64 x0) ∧ w'.cell? ⟨g2, 1, none⟩ = some (.int .u32 x1)) ∧ (w'.cell? ⟨g2, (j + 1) * 2, none⟩ = some (.int .i64 (-1)) ∧ w'.cell? ⟨g2, (j + 1) * 2 + 1, none⟩ = some (.int .u32 0)))
          (first | exact ⟨⟨d0, d1⟩, ⟨l0, l1⟩, l2, l3⟩ | exact y2 | exact y1)
          (first
            | (go_at_call 8; refine (code_any _ (links X (j + 1)) R _ HC10.out HE10.out).mono ?_; rintro e x2 ⟨rfl, b2⟩; have HC11 := Lib.hid (HC10.out.on b2 (Nat.le_refl _)); have HB11 := Lib.hid (HB10.out.trans (b2.mono HB10.out.size)); have HE11 := Lib.hid (HE10.out.on b2); have y2 := six_on y1 b2 zs zg)
            | (go_at_call 9; refine (is_chain _ (links X (j + 1)) R R _ (HC7.out.on (Below.refl _ _).drew (Nat.le_refl _)) hR).mono ?_; rintro e x1' ⟨rfl, b1⟩; have HC10 := Lib.hid ((HC7.out.on (w1 := w7.drew) (Below.refl w7.heap.size w7).drew (Nat.le_refl _)).on b1 (Nat.le_refl _)); have HB10 := Lib.hid (HB7.out.drew.trans (b1.mono HB7.out.size)); have HE10 := Lib.hid ((HE7.out.on (Below.refl w7.heap.size w7).drew).on b1); have y1 := six_on (w := w7.drew) (w' := x1') Y0.out b1 z7 hg7; have zs : s8 < x1'.heap.size := Nat.lt_of_lt_of_le z7 b1.size; have zg : g2 < x1'.heap.size := Nat.lt_of_lt_of_le hg7 b1.size))
        go_wp2_with fail
        go_roundw
        case rel => exact ⟨j + 1, by omega, by go_num, HC11.out, HB11.out, HE11.out⟩
        case measure => simp [intOf]; omega
    · obtain rfl : n = j := by omega
      have HC9 := HC
      have HB9 := HB
      go_wp2_with fail
      refine (is_chain _ _ R R _ HC9.out hR).mono ?_
      rintro e w8 ⟨rfl, hb8⟩
      have HC8 := Lib.hid (HC9.out.on hb8 (Nat.le_refl _))
      have HB8 := Lib.hid (HB9.out.trans (hb8.mono HB9.out.size))
      have hR1 : ((R + 1) == 0) = false := by rw [beq_eq_false_iff_ne]; omega
      have hR2 : (R == R + 1) = false := by rw [beq_eq_false_iff_ne]; omega
      clear hb8
      go_wp2_with fail
      refine (is_chain _ _ R (R + 1) _ HC8.out hR1).mono ?_
      rintro e w9 ⟨rfl, hb8⟩
      have HB7 := Lib.hid (HB8.out.trans (hb8.mono HB8.out.size))
      rw [hR2]
      clear hb8
      go_wp2_with fail
      go_ret
      exact ⟨rfl, HB7.out⟩
end Go.Proofs.YtkhnjgadagkpjaaDoor.Flt
