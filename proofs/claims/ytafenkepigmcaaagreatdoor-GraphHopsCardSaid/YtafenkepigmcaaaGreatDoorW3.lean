/- graph: GraphHops walked. -/
import Derived.Test.YtafenkepigmcaaaGreatDoorW2
namespace Go.Proofs.YtafenkepigmcaaaGreatDoor.Gr
open Go Go.RowKit YtafenkepigmcaaaGreatDoor.So
set_option maxRecDepth 100000 in
theorem field_halves (c0 c1 c2 : Value) (ho : Option Addr) (n cap : Nat) (w : World) : (Instr.field 51 (.agg #[c0, c1, c2, .slice ho n cap]) 3).run Tryz.prog w = .ok (.slice ho n cap) w := by kernel_rfl
/-- Has one of the first so many halves its far end in a list? -/
def nearB (A : List Int) (L : EL Av) (j : Nat) : Bool := (L.take j).any fun e => decide (e.1 ∈ A)
theorem nearB_more {A : List Int} {L : EL Av} {j : Nat} {e : Int × Av} (h : L[j]? = some e) : nearB A L (j + 1) = (nearB A L j || decide (e.1 ∈ A)) := by
  unfold nearB
  rw [List.take_add_one, h, List.any_append]
  simp
theorem nearB_all {A : List Int} {L : EL Av} {z : Int} (hz : z ∈ keysE L) (hA : z ∈ A) : nearB A L L.length = true := by
  unfold nearB
  rw [List.take_length, List.any_eq_true]
  obtain ⟨e, he, rfl⟩ := List.mem_map.1 hz
  exact ⟨e, he, by simpa using hA⟩
set_option maxRecDepth 100000 in
set_option maxHeartbeats 4000000 in
theorem hops_any (rs : List Rq) (so : Option Addr) (sc : Nat) (v k : Int) (w : World) (he : Flt.ErrT w) (hS : RdS w so rs) (hl : rs.length ≤ maxLen) (hv : In32 v) (hk : In8 k) : Calls Tryz.prog 6 #[.slice so rs.length sc, .int .u32 v, .int .u8 k] w (SaysYes w) := by
  obtain ⟨N, hN⟩ : ∃ N, rs.length = N := ⟨_, rfl⟩
  rw [hN] at hl ⊢
  obtain ⟨q, rfl⟩ : ∃ q : Nat, k = q := ⟨k.toNat, by have := (in8_b hk).1; omega⟩
  have hq255 : (q : Int) ≤ 255 := (in8_b hk).2
  have HS := Lib.hid (And.intro hS (And.intro hN (And.intro he hv)))
  have hl' : (N : Int) ≤ 9223372036854775807 := by unfold maxLen at hl; omega
  clear hS hN he hl hv hk
  go_enter Tryz.func6, Tryz.ntmps6
  go_wp2_with fail
  refine (awake_any w HS.out.2.2.1).mono ?_
  rintro e w1 ⟨rfl, hb1⟩
  have H1 := Lib.hid hb1
  clear hb1
  go_wp2_with fail
  refine (new_any w1).mono ?_
  rintro e w2 ⟨rfl, hgp, hb2⟩
  obtain ⟨g, hg⟩ : ∃ g, w1.heap.size + 2 = g := ⟨_, rfl⟩
  rw [hg] at hgp ⊢
  have HA := Lib.hid (LawAt.start hgp (fun k hk => by have := H1.out.size; omega) (H1.out.trans (hb2.mono H1.out.size)))
  clear hgp hb2 hg
  go_wp2_with fail
  go_loopw [26] (fun u wr => ∃ i : Nat, u = .int .i64 i ∧ i ≤ N ∧ Hid (LawAt w g i wr)) (fun u _ => N + 1 - (intOf u).toNat)
  case atStart => exact ⟨0, rfl, Nat.zero_le _, HA⟩
  case round =>
    obtain ⟨i, rfl, hi, HI⟩ := hrel
    by_cases hiN : i < N
    · obtain ⟨⟨kd, os, V, K, To⟩, ho⟩ : ∃ r, rs[i]? = some r := ⟨_, List.getElem?_eq_getElem (by have := HS.out.2.1; omega)⟩
      obtain ⟨b, off, ao, cap, rfl, hbl, q0, q1, q2, q3, q4, q5, q7, q8, q9, q10⟩ := (HS.out.1.below HI.out.bel) i _ ho
      simp only at q0 q1 q2 q3 q4 q5 q8 q9 q10
      obtain ⟨nO, hnO⟩ : ∃ nO, os.length = nO := ⟨_, rfl⟩
      rw [hnO] at q1
      have hi1 : i + 1 ≤ N := hiN
      have hb3 := (Below.refl wr.heap.size wr).alloc (Nat.le_refl _) (.cells #[.int .u8 kd, .slice ao nO cap, .int .u32 V, .int .i64 K, .int .i64 To] 33)
      have HQ := Lib.hid (And.intro hb3 (And.intro (q5.on (K := fun _ => False) (below_any hb3) (fun _ _ h => h)) (And.intro q7 (And.intro q8 (And.intro q9 (And.intro q10 hnO))))))
      clear ho hbl q5 q7 q8 q9 q10 hb3 hnO
      by_cases h80 : i < 60
      · have HC := Lib.hid (LawAt.ask (r := ⟨kd, os, V, K, To⟩) (cap := cap) (HI.out.below HQ.out.1) (by omega) HS.out.2.2.1 HQ.out.2.1 HQ.out.2.2.1 HQ.out.2.2.2.1 HQ.out.2.2.2.2.1 HQ.out.2.2.2.2.2.1)
        unfold Rq.val at HC
        simp only at HC
        rw [HQ.out.2.2.2.2.2.2] at HC
        go_wp2_with fail
        refine HC.out.mono ?_
        rintro e w3 ⟨vr, rfl, ha⟩
        have H3 := Lib.hid ha
        clear ha HC HQ
        go_wp2_with fail
        go_roundw
        case rel => exact ⟨i + 1, by go_num, hi1, H3⟩
        case measure => simp [intOf] <;> omega
      · go_wp2_with fail
        go_roundw
        case rel => exact ⟨i + 1, by go_num, hi1, Lib.hid ((HI.out.below HQ.out.1).skip)⟩
        case measure => simp [intOf] <;> omega
    · have hiE : N = i := by omega
      subst hiE
      clear hiN hi
      obtain ⟨G, hok, hh⟩ := HI.out.hops
      obtain ⟨m, hm⟩ : ∃ m : Nat, q % 8 = m := ⟨_, rfl⟩
      have hm7 : m ≤ 7 := by omega
      have hrem : ((q : Int)).tmod 8 = (m : Int) := by rw [Int.tmod_eq_emod_of_nonneg (by omega), ← hm]; omega
      have HG := Lib.hid (And.intro hok (And.intro hh (And.intro hm7 HS.out.2.2)))
      clear hok hh HI hm
      go_wp2_with fail
      have HQ1 := Lib.hid (HG.out.2.1.ask HG.out.1 HG.out.2.2.2.1 HG.out.2.2.2.2 (k := m) (by have := HG.out.2.2.1; omega) (by omega))
      obtain ⟨E, hE⟩ : ∃ E, hopE G v = E := ⟨_, rfl⟩
      obtain ⟨A, hA⟩ : ∃ A, hopL G v m = A := ⟨_, rfl⟩
      obtain ⟨nA, hnA⟩ : ∃ nA, A.length = nA := ⟨_, rfl⟩
      unfold HopPost at HQ1
      rw [hE, hA, hnA] at HQ1
      refine HQ1.out.mono ?_
      rintro e w4 ⟨av, cv, al, cl, rfl, rowA, -, h4⟩
      have h5 := h4.keep (.cells #[.int .i64 E, .int .i64 0, .slice av 0 cv, .slice al nA cl] 39)
      have kb1 := heap_alloc_new w4 (.cells #[.int .i64 E, .int .i64 0, .slice av 0 cv, .slice al nA cl] 39)
      have rowA5 := row_base (row_turned rowA (below_any (G := fun _ => False) ((Below.refl _ w4).alloc (Nat.le_refl _) (.cells #[.int .i64 E, .int .i64 0, .slice av 0 cv, .slice al nA cl] 39))) (fun _ _ h => h)) (Nat.zero_le _)
      obtain ⟨p1, hp1⟩ : ∃ p1, w4.heap.size = p1 := ⟨_, rfl⟩
      obtain ⟨w5, hw5⟩ : ∃ w5, w4.alloc (.cells #[.int .i64 E, .int .i64 0, .slice av 0 cv, .slice al nA cl] 39) = w5 := ⟨_, rfl⟩
      rw [hw5] at h5 kb1 rowA5
      rw [hp1] at h5 kb1
      have HQ2 := h5.ask HG.out.1 HG.out.2.2.2.1 HG.out.2.2.2.2 (k := m + 1) (by have := HG.out.2.2.1; omega) (by omega)
      rw [show ((m + 1 : Nat) : Int) = (m : Int) + 1 by omega] at HQ2
      obtain ⟨B, hB⟩ : ∃ B, hopL G v (m + 1) = B := ⟨_, rfl⟩
      obtain ⟨nB, hnB⟩ : ∃ nB, B.length = nB := ⟨_, rfl⟩
      unfold HopPost at HQ2
      rw [hE, hB, hnB] at HQ2
      have HQ2 := Lib.hid HQ2
      have H5 := Lib.hid (And.intro kb1 (And.intro rowA5 (And.intro hE (And.intro hA (And.intro hnA (And.intro hB hnB))))))
      clear HQ1 rowA h4 h5 kb1 rowA5 hE hA hnA hB hnB
      go_wp2_with fail
      refine HQ2.out.mono ?_
      rintro e w6 ⟨av2, cv2, al2, cl2, rfl, rowB, h6o, h6⟩
      have h7 := h6.keep (.cells #[.int .i64 E, .int .i64 0, .slice av2 0 cv2, .slice al2 nB cl2] 39)
      have kb2 := heap_alloc_new w6 (.cells #[.int .i64 E, .int .i64 0, .slice av2 0 cv2, .slice al2 nB cl2] 39)
      have bl7 := (Below.refl _ w6).alloc (Nat.le_refl _) (.cells #[.int .i64 E, .int .i64 0, .slice av2 0 cv2, .slice al2 nB cl2] 39)
      have kb1' := (bl7.block p1 (Array.getElem?_eq_some_iff.1 ((h6o.heap (.inr rfl)).trans H5.out.1)).1).trans ((h6o.heap (.inr rfl)).trans H5.out.1)
      have rowA7 := row_turned (h6o.row H5.out.2.1 (fun b hb => .inl (.inr hb))) (below_any (G := fun _ => False) bl7) (fun _ _ h => h)
      have rowB7 := row_base (row_turned rowB (below_any (G := fun _ => False) bl7) (fun _ _ h => h)) (Nat.zero_le _)
      obtain ⟨p2, hp2⟩ : ∃ p2, w6.heap.size = p2 := ⟨_, rfl⟩
      obtain ⟨wb, hwb⟩ : ∃ wb, w6.alloc (.cells #[.int .i64 E, .int .i64 0, .slice av2 0 cv2, .slice al2 nB cl2] 39) = wb := ⟨_, rfl⟩
      rw [hwb] at h7 kb2 kb1' rowA7 rowB7
      rw [hp2] at h7 kb2
      obtain ⟨KK, hKK⟩ : ∃ KK : Nat → Prop, KK = fun k => (((False ∨ (Value.slice al nA cl).ownBlock = some k) ∨ k = p1) ∨ (Value.slice al2 nB cl2).ownBlock = some k) ∨ k = p2 := ⟨_, rfl⟩
      rw [← hKK] at h7
      have HF := Lib.hid (show (∀ (i : Nat) (wr : World), HopsAt w g G KK wb i wr → wr.heap[p1]? = some (.cells #[.int .i64 E, .int .i64 0, .slice av 0 cv, .slice al nA cl] 39 (0, 0)) ∧ wr.heap[p2]? = some (.cells #[.int .i64 E, .int .i64 0, .slice av2 0 cv2, .slice al2 nB cl2] 39 (0, 0)) ∧ wr.ownsRow 0 23 1 (.slice al nA cl) nA (KA.u32s A) ∧ wr.ownsRow 0 23 1 (.slice al2 nB cl2) nB (KA.u32s B)) from fun i wr h => ⟨(h.heap (by rw [hKK]; exact .inl (.inl (.inr rfl)))).trans kb1', (h.heap (by rw [hKK]; exact .inr rfl)).trans kb2, h.row rowA7 (fun b hb => by rw [hKK]; exact .inl (.inl (.inl (.inr hb)))), h.row rowB7 (fun b hb => by rw [hKK]; exact .inl (.inr hb))⟩)
      have H7 := Lib.hid h7
      have hcA : wb.cell? ⟨p1, 0, none⟩ = some (.int .i64 E) ∧ wb.cell? ⟨p1, 3, none⟩ = some (.slice al nA cl) := by simp [World.cell?, kb1']
      have hcB : wb.cell? ⟨p2, 0, none⟩ = some (.int .i64 E) ∧ wb.cell? ⟨p2, 3, none⟩ = some (.slice al2 nB cl2) := by simp [World.cell?, kb2]
      obtain ⟨cA0, cA3⟩ := hcA
      obtain ⟨cB0, cB3⟩ := hcB
      have HE := Lib.hid H5.out.2.2
      clear HQ2 rowB h6o h6 h7 kb2 bl7 kb1' rowA7 rowB7 hKK H5
      by_cases hE0 : E = 0
      · subst hE0
        have hvs := hopE_some HE.out.1
        have hAw : withinG G v m = A := by have := HE.out.2.1; unfold hopL at this; rwa [if_pos HE.out.1] at this
        have hBw : withinG G v (m + 1) = B := by have := HE.out.2.2.2.1; unfold hopL at this; rwa [if_pos HE.out.1] at this
        have HAm := Lib.hid (show ∀ x, x ∈ A ↔ Wi G v m x from fun x => by rw [← hAw]; exact mem_within HG.out.1 hvs m x)
        have HBm := Lib.hid (show ∀ x, x ∈ B ↔ Wi G v (m + 1) x from fun x => by rw [← hBw]; exact mem_within HG.out.1 hvs (m + 1) x)
        have hA40 : nA ≤ 40 := by rw [← HE.out.2.2.1, ← hAw]; exact within_40 HG.out.1 v m
        have hB40 : nB ≤ 40 := by rw [← HE.out.2.2.2.2, ← hBw]; exact within_40 HG.out.1 v (m + 1)
        have HN := Lib.hid (And.intro HE.out.2.2.1 (And.intro HE.out.2.2.2.2 hvs))
        have hA40' : (nA : Int) ≤ 40 := by omega
        have hB40' : (nB : Int) ≤ 40 := by omega
        have HL := Lib.hid (And.intro hA40 hB40)
        clear hvs hAw hBw hA40 hB40 HE
        go_wp2_with fail
        go_loopw [69] (fun u wr => ∃ i : Nat, u = .int .i64 i ∧ i ≤ nA ∧ Hid (HopsAt w g G KK wb (2 + i) wr)) (fun u _ => nA + 1 - (intOf u).toNat)
        case atStart => exact ⟨0, rfl, Nat.zero_le _, H7⟩
        case round =>
          clear cA0 cA3 cB0 cB3
          obtain ⟨i, rfl, hi, HI⟩ := hrel
          obtain ⟨kb1, kb2, rowA, rowB⟩ := HF.out _ _ HI.out
          by_cases hiA : i < nA
          · obtain ⟨x, hx⟩ : ∃ x, A[i]? = some x := ⟨_, List.getElem?_eq_getElem (by have := HN.out.1; omega)⟩
            obtain ⟨gb, rfl, -, -, hc⟩ := row_cell rowA (k := i) (u := .int .u32 x) (by simp [KA.u32s, hx])
            have hxA : x ∈ A := List.mem_of_getElem? hx
            have hxw := (HAm.out x).1 hxA
            have hxs := Wi.there HN.out.2.2 HG.out.1.closed m x hxw
            have hcB3 : wr.cell? ⟨p2, 3, none⟩ = some (.slice al2 nB cl2) := by simp [World.cell?, kb2]
            have HC := Lib.hid (in_any 0 _ nB B x wr rowB HN.out.2.1.symm (by have := HL.out.2; have := HN.out.2.1; omega))
            rw [show decide (x ∈ B) = true from by simpa using (HBm.out x).2 (.inl hxw)] at HC
            have hi1 : i + 1 ≤ nA := hiA
            have HX := Lib.hid (And.intro hxw hxs)
            clear hx hxA hxw hxs kb1 kb2 rowA rowB
            go_wp2_with fail
            refine HC.out.mono ?_
            rintro e w8 ⟨rfl, hb8⟩
            have HC2 := Lib.hid ((HI.out.below hb8).ask HG.out.1 HG.out.2.2.2.1 (HG.out.1.in32 HX.out.2) (k := m) (by have := HG.out.2.2.1; omega) (by have := HL.out.1; omega))
            have hE2 := hopE_there HG.out.1 HX.out.2
            have hL2 : hopL G x m = withinG G x m := by unfold hopL; rw [if_pos hE2]
            obtain ⟨X, hX⟩ : ∃ X, withinG G x m = X := ⟨_, rfl⟩
            obtain ⟨nX, hnX⟩ : ∃ nX, X.length = nX := ⟨_, rfl⟩
            have hX40 : nX ≤ 40 := by rw [← hnX, ← hX]; exact within_40 HG.out.1 x m
            have hvX : decide (v ∈ X) = true := by
              rw [← hX]
              simpa using (mem_within HG.out.1 HX.out.2 m v).2 (Wi.symm HG.out.1 m x HX.out.1)
            unfold HopPost at HC2
            rw [hE2, hL2, hX, hnX] at HC2
            have HV := Lib.hid (And.intro hnX (And.intro hX40 hvX))
            clear hb8 HC hE2 hL2 hX hnX hX40 hvX
            go_wp2_with fail
            refine HC2.out.mono ?_
            rintro e w9 ⟨av9, cv9, al9, cl9, rfl, row9, h9, -⟩
            have bl9 := (Below.refl _ w9).alloc (Nat.le_refl _) (.cells #[.int .i64 0, .int .i64 0, .slice av9 0 cv9, .slice al9 nX cl9] 39)
            have kb9 := heap_alloc_new w9 (.cells #[.int .i64 0, .int .i64 0, .slice av9 0 cv9, .slice al9 nX cl9] 39)
            have row10 := row_turned row9 (below_any (G := fun _ => False) bl9) (fun _ _ h => h)
            have h10 := h9.below bl9
            obtain ⟨p9, hp9⟩ : ∃ p9, w9.heap.size = p9 := ⟨_, rfl⟩
            obtain ⟨wx, hwx⟩ : ∃ wx, w9.alloc (.cells #[.int .i64 0, .int .i64 0, .slice av9 0 cv9, .slice al9 nX cl9] 39) = wx := ⟨_, rfl⟩
            rw [hwx] at kb9 row10 h10
            rw [hp9] at kb9
            have hc9 : wx.cell? ⟨p9, 0, none⟩ = some (.int .i64 0) ∧ wx.cell? ⟨p9, 3, none⟩ = some (.slice al9 nX cl9) := by simp [World.cell?, kb9]
            obtain ⟨hc90, hc93⟩ := hc9
            have HC := Lib.hid (in_any _ _ nX X v wx row10 HV.out.1.symm (by have := HV.out.1; have := HV.out.2.1; omega))
            rw [HV.out.2.2] at HC
            have H10 := Lib.hid h10
            clear row9 h9 bl9 kb9 row10 h10 HC2
            go_wp2_with fail
            refine HC.out.mono ?_
            rintro e w11 ⟨rfl, hb11⟩
            have H11 := Lib.hid (H10.out.below hb11)
            clear hb11
            go_wp2_with fail
            go_roundw
            case rel => exact ⟨i + 1, by go_num, hi1, H11⟩
            case measure => simp [intOf] <;> omega
          · have hiE : nA = i := by omega
            subst hiE
            have hcB3 : wr.cell? ⟨p2, 3, none⟩ = some (.slice al2 nB cl2) := by simp [World.cell?, kb2]
            clear hiA hi kb1 kb2 rowA rowB
            go_wp2_with fail
            clear hcB3
            go_loopw [97] (fun u wr => ∃ i : Nat, u = .int .i64 i ∧ i ≤ nB ∧ Hid (HopsAt w g G KK wb (2 + nA) wr)) (fun u _ => nB + 1 - (intOf u).toNat)
            case atStart => exact ⟨0, rfl, Nat.zero_le _, HI⟩
            case round =>
              clear HI
              obtain ⟨i, rfl, hi, HI⟩ := hrel
              obtain ⟨kb1, kb2, rowA, rowB⟩ := HF.out _ _ HI.out
              have hcA3 : wr.cell? ⟨p1, 3, none⟩ = some (.slice al nA cl) := by simp [World.cell?, kb1]
              by_cases hiB : i < nB
              · obtain ⟨x, hx⟩ : ∃ x, B[i]? = some x := ⟨_, List.getElem?_eq_getElem (by have := HN.out.2.1; omega)⟩
                obtain ⟨gb, rfl, -, -, hc⟩ := row_cell rowB (k := i) (u := .int .u32 x) (by simp [KA.u32s, hx])
                have hxw := (HBm.out x).1 (List.mem_of_getElem? hx)
                have hxs := Wi.there HN.out.2.2 HG.out.1.closed (m + 1) x hxw
                have HC := Lib.hid (in_any 0 _ nA A x wr rowA HN.out.1.symm (by have := HL.out.1; have := HN.out.1; omega))
                have hi1 : i + 1 ≤ nB := hiB
                have HX := Lib.hid (And.intro hxw hxs)
                clear hx hxw hxs kb1 kb2 rowA rowB
                by_cases hxA : x ∈ A
                · rw [show decide (x ∈ A) = true from by simpa using hxA] at HC
                  go_wp2_with fail
                  refine HC.out.mono ?_
                  rintro e w8 ⟨rfl, hb8⟩
                  have H8 := Lib.hid (HI.out.below hb8)
                  clear hb8 hxA
                  go_wp2_with fail
                  go_roundw
                  case rel => exact ⟨i + 1, by go_num, hi1, H8⟩
                  case measure => simp [intOf] <;> omega
                · rw [show decide (x ∈ A) = false from by simpa using hxA] at HC
                  obtain ⟨z, hz, hzx⟩ : ∃ z, Wi G v m z ∧ x ∈ adjG G z := by
                    rcases HX.out.1 with q | q
                    · exact absurd ((HAm.out x).2 q) hxA
                    · exact q
                  obtain ⟨⟨PP, L⟩, hgx⟩ := Option.isSome_iff_exists.1 HX.out.2
                  have hzL : z ∈ keysE L := by have := HG.out.1.adj hzx; unfold adjG at this; rwa [hG_some hgx] at this
                  have hnear := nearB_all hzL ((HAm.out z).2 hz)
                  have hL16 : L.length ≤ 16 := by have := HG.out.1.few x; rwa [hG_some hgx] at this
                  obtain ⟨nL, hnL⟩ : ∃ nL, L.length = nL := ⟨_, rfl⟩
                  obtain ⟨nP, hnP⟩ : ∃ nP, PP.length = nP := ⟨_, rfl⟩
                  rw [hnL] at hL16 hnear
                  have hL16' : (nL : Int) ≤ 16 := by omega
                  have HGx := Lib.hid (And.intro hgx (And.intro hnear hnL))
                  clear hz hzx hzL hnear hgx hL16
                  go_wp2_with fail
                  refine HC.out.mono ?_
                  rintro e w8 ⟨rfl, hb8⟩
                  have HV := Lib.hid ((HI.out.below hb8).there HG.out.1 (by have := HL.out.1; omega) HGx.out.1)
                  unfold ThereV at HV
                  rw [HGx.out.2.2, hnP] at HV
                  have H8 := Lib.hid (HI.out.below hb8)
                  clear hb8 HC hnP
                  go_wp2_with fail
                  refine HV.out.mono ?_
                  rintro e w9 ⟨po, pc, ho, hc9, rfl, -, hrE, hb9⟩
                  have H9 := Lib.hid (And.intro (H8.out.below hb9) hrE)
                  have hfd := field_halves (.int .u32 x) (.bool true) (.slice po nP pc) ho nL hc9
                  clear hb9 hrE HV hnL
                  go_wp2_with fail
                  go_loopw [18, 110] (fun b u wr => ∃ j : Nat, u = .int .i64 j ∧ b = .bool (nearB A L j) ∧ j ≤ nL ∧ Hid (Below w9.heap.size w9 wr)) (fun _ u _ => nL + 1 - (intOf u).toNat)
                  case atStart => exact ⟨0, rfl, rfl, Nat.zero_le _, Lib.hid (.refl _ _)⟩
                  case round =>
                    clear hc hcA3
                    obtain ⟨j, rfl, rfl, hj, HJ⟩ := hrel
                    have HH := Lib.hid (H9.out.1.below HJ.out)
                    by_cases hjL : j < nL
                    · obtain ⟨⟨o, ⟨ak, am, ss⟩⟩, hle⟩ : ∃ e, L[j]? = some e := ⟨_, List.getElem?_eq_getElem (by have := HGx.out.2.2; omega)⟩
                      obtain ⟨bb, off, rfl, -, q0, q1, q2, q3⟩ := (H9.out.2.below HJ.out) j _ hle
                      simp only at q0 q1 q2 q3
                      have hmore := nearB_more (A := A) hle
                      simp only at hmore
                      have bl := (Below.refl _ wr).alloc (Nat.le_refl _) (.cells #[.int .u32 o, .int .u8 ak, .int .i64 am, .string ss] 58)
                      have hh2 := HH.out.below bl
                      have ky := heap_alloc_new wr (.cells #[.int .u32 o, .int .u8 ak, .int .i64 am, .string ss] 58)
                      obtain ⟨y0, hy0⟩ : ∃ y0, wr.heap.size = y0 := ⟨_, rfl⟩
                      obtain ⟨wy, hwy⟩ : ∃ wy, wr.alloc (.cells #[.int .u32 o, .int .u8 ak, .int .i64 am, .string ss] 58) = wy := ⟨_, rfl⟩
                      have hb9y := HJ.out.trans (bl.mono HJ.out.size)
                      rw [hwy] at hh2 ky hb9y
                      rw [hy0] at ky
                      obtain ⟨kb1, -, rowA, -⟩ := HF.out _ _ hh2
                      have hcA3 : wy.cell? ⟨p1, 3, none⟩ = some (.slice al nA cl) := by simp [World.cell?, kb1]
                      obtain ⟨y1, -, -, -⟩ := be4 ky
                      have HC := Lib.hid (in_any 0 _ nA A o wy rowA HN.out.1.symm (by have := HL.out.1; have := HN.out.1; omega))
                      have HB := Lib.hid hb9y
                      have hj1 : j + 1 ≤ nL := hjL
                      clear hle bl hh2 ky hb9y kb1 rowA
                      cases hn : nearB A L j
                      · rw [hn, Bool.false_or] at hmore
                        rw [← hmore] at HC
                        clear hn
                        go_wp2_with fail
                        refine HC.out.mono ?_
                        rintro e wz ⟨rfl, hbz⟩
                        have HZ := Lib.hid (HB.out.trans (hbz.mono HB.out.size))
                        clear hbz hmore
                        go_wp2_with fail
                        go_roundw
                        case rel => exact ⟨j + 1, by go_num, rfl, hj1, HZ⟩
                        case measure => simp [intOf] <;> omega
                      · rw [hn, Bool.true_or] at hmore
                        clear hn
                        go_wp2_with fail
                        go_roundw
                        case rel => exact ⟨j + 1, by go_num, by rw [hmore], hj1, HB⟩
                        case measure => simp [intOf] <;> omega
                    · have hjE : nL = j := by omega
                      subst hjE
                      rw [HGx.out.2.1]
                      clear hjL hj
                      go_wp2_with fail
                      go_roundw
                      case rel => exact ⟨i + 1, by go_num, hi1, HH⟩
                      case measure => simp [intOf] <;> omega
              · have hiE : nB = i := by omega
                subst hiE
                have HC := Lib.hid (in_any 0 _ nA A v wr rowA HN.out.1.symm (by have := HL.out.1; have := HN.out.1; omega))
                rw [show decide (v ∈ A) = true from by simpa using (HAm.out v).2 (Wi.self G v m)] at HC
                clear hiB hi kb1 kb2 rowA rowB
                go_wp2_with fail
                refine HC.out.mono ?_
                rintro e w8 ⟨rfl, hb8⟩
                have H8 := Lib.hid (HI.out.below hb8).bel
                clear hb8
                go_wp2_with fail
                go_ret
                exact ⟨rfl, H8.out⟩
      · have hEb : (E != 0) = true := by simpa using hE0
        have hno := hopE_no HG.out.1 (show ¬ hopE G v = 0 by rw [HE.out.1]; exact hE0)
        have HV := Lib.hid (H7.out.none HG.out.2.2.2.2 hno)
        have hfd := field_there (.int .u32 v) (.slice none 0 0) (.slice none 0 0) false
        clear hE0 hno
        go_wp2_with fail
        refine HV.out.mono ?_
        rintro e w8 ⟨rfl, hb8⟩
        have H8 := Lib.hid (H7.out.below hb8).bel
        clear hb8
        go_wp2_with fail
        go_ret
        exact ⟨rfl, H8.out⟩
end Go.Proofs.YtafenkepigmcaaaGreatDoor.Gr
