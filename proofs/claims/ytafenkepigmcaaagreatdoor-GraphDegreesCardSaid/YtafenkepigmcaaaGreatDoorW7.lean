/- graph: GraphDegrees walked. -/
import Derived.Test.YtafenkepigmcaaaGreatDoorW6
namespace Go.Proofs.YtafenkepigmcaaaGreatDoor.Gr
open Go Go.RowKit YtafenkepigmcaaaGreatDoor.So
set_option maxRecDepth 100000 in
set_option maxHeartbeats 4000000 in
theorem degrees_any (rs : List Rq) (so : Option Addr) (sc : Nat) (w : World) (he : Flt.ErrT w) (hS : RdS w so rs) (hl : rs.length ≤ maxLen) : Calls Tryz.prog 10 #[.slice so rs.length sc] w (SaysYes w) := by
  obtain ⟨N, hN⟩ : ∃ N, rs.length = N := ⟨_, rfl⟩
  rw [hN] at hl ⊢
  have HS := Lib.hid (And.intro hS (And.intro hN he))
  have hl' : (N : Int) ≤ 9223372036854775807 := by unfold maxLen at hl; omega
  clear hS hN he hl
  go_enter Tryz.func10, Tryz.ntmps10
  go_wp2_with fail
  refine (awake_any w HS.out.2.2).mono ?_
  rintro e w1 ⟨rfl, hb1⟩
  have H1 := Lib.hid hb1
  clear hb1
  go_wp2_with fail
  refine (new_any w1).mono ?_
  rintro e w2 ⟨rfl, hgp, hb2⟩
  obtain ⟨g, hg⟩ : ∃ g, w1.heap.size + 2 = g := ⟨_, rfl⟩
  rw [hg] at hgp ⊢
  have HA := Lib.hid (LawAt.start hgp (fun k hk => by have := H1.out.size; omega) (H1.out.trans (hb2.mono H1.out.size)))
  clear hgp hb2 hg
  go_wp2_with fail
  go_loopw [20] (fun u wr => ∃ i : Nat, u = .int .i64 i ∧ i ≤ N ∧ Hid (LawAt w g i wr)) (fun u _ => N + 1 - (intOf u).toNat)
  case atStart => exact ⟨0, rfl, Nat.zero_le _, HA⟩
  case round =>
    obtain ⟨i, rfl, hi, HI⟩ := hrel
    by_cases hiN : i < N
    · obtain ⟨⟨kd, os, V, K, To⟩, ho⟩ : ∃ r, rs[i]? = some r := ⟨_, List.getElem?_eq_getElem (by have := HS.out.2.1; omega)⟩
      obtain ⟨b, off, ao, cap, rfl, hbl, q0, q1, q2, q3, q4, q5, q7, q8, q9, q10⟩ := (HS.out.1.below HI.out.bel) i _ ho
      simp only at q0 q1 q2 q3 q4 q5 q8 q9 q10
      obtain ⟨nO, hnO⟩ : ∃ nO, os.length = nO := ⟨_, rfl⟩
      rw [hnO] at q1
      have hi1 : i + 1 ≤ N := hiN
      have hb3 := (Below.refl wr.heap.size wr).alloc (Nat.le_refl _) (.cells #[.int .u8 kd, .slice ao nO cap, .int .u32 V, .int .i64 K, .int .i64 To] 33)
      have HQ := Lib.hid (And.intro hb3 (And.intro (q5.on (K := fun _ => False) (below_any hb3) (fun _ _ h => h)) (And.intro q7 (And.intro q8 (And.intro q9 (And.intro q10 hnO))))))
      clear ho hbl q5 q7 q8 q9 q10 hb3 hnO
      by_cases h80 : i < 60
      · have HC := Lib.hid (LawAt.ask (r := ⟨kd, os, V, K, To⟩) (cap := cap) (HI.out.below HQ.out.1) (by omega) HS.out.2.2 HQ.out.2.1 HQ.out.2.2.1 HQ.out.2.2.2.1 HQ.out.2.2.2.2.1 HQ.out.2.2.2.2.2.1)
        unfold Rq.val at HC
        simp only at HC
        rw [HQ.out.2.2.2.2.2.2] at HC
        go_wp2_with fail
        refine HC.out.mono ?_
        rintro e w3 ⟨vr, rfl, ha⟩
        have H3 := Lib.hid ha
        clear ha HC HQ
        go_wp2_with fail
        go_roundw
        case rel => exact ⟨i + 1, by go_num, hi1, H3⟩
        case measure => simp [intOf] <;> omega
      · go_wp2_with fail
        go_roundw
        case rel => exact ⟨i + 1, by go_num, hi1, Lib.hid ((HI.out.below HQ.out.1).skip)⟩
        case measure => simp [intOf] <;> omega
    · have hiE : N = i := by omega
      subst hiE
      clear hiN hi
      obtain ⟨G, hok, hh⟩ := HI.out.hops
      have HL := Lib.hid (hops_list hh (by omega))
      obtain ⟨ks, hks⟩ : ∃ ks, keysE G = ks := ⟨_, rfl⟩
      obtain ⟨M, hM⟩ : ∃ M, G.length = M := ⟨_, rfl⟩
      have hMk : M = ks.length := by rw [← hM, ← hks, keysE_len]
      have hM40 : M ≤ 40 := by rw [hMk, ← hks]; exact hok.keys40 (keysE_rise hok.rise) (fun x hx => (mem_keysE hok.rise x).1 hx)
      have hM40' : (M : Int) ≤ 40 := by omega
      rw [hM, hks] at HL
      have HG := Lib.hid (And.intro hok (And.intro hks (And.intro hM (And.intro hMk hM40))))
      clear hok hh HI hks hM hMk hM40
      go_wp2_with fail
      refine HL.out.mono ?_
      rintro e w4 ⟨ao, cap, rfl, row4, -, h4⟩
      have row4 := row_base row4 (Nat.zero_le _)
      have H4 := Lib.hid (And.intro row4 h4)
      clear row4 h4 HL
      go_wp2_with fail
      go_loopw [6, 7, 34] (fun s t u wr => ∃ i : Nat, u = .int .i64 i ∧ i ≤ M ∧ s = .int .i64 (sumBy (fun a => (hG G a).length) (ks.take i) : Nat) ∧ t = .int .i64 (sumBy (fun a => ks.countP fun b => decide (a < b) && joinedG G a b) (ks.take i) : Nat) ∧ Hid (HopsAt w g G (fun k => False ∨ (Value.slice ao M cap).ownBlock = some k) w4 (100 * i) wr)) (fun _ _ u _ => M + 1 - (intOf u).toNat)
      case atStart => exact ⟨0, rfl, Nat.zero_le _, rfl, rfl, Lib.hid H4.out.2⟩
      case round =>
        obtain ⟨i, rfl, hi, rfl, rfl, HI⟩ := hrel
        have hSb : sumBy (fun a => (hG G a).length) (ks.take i) ≤ 640 := by
          have h1 := sumBy_le (m := 16) (l := ks.take i) (f := fun a => (hG G a).length) (fun a _ => HG.out.1.few a)
          have h2 : (ks.take i).length ≤ 40 := by rw [List.length_take]; have := HG.out.2.2.2.1; have := HG.out.2.2.2.2; omega
          omega
        have hCb : sumBy (fun a => ks.countP fun b => decide (a < b) && joinedG G a b) (ks.take i) ≤ 1600 := by
          have h1 := sumBy_le (m := 40) (l := ks.take i) (f := fun a => ks.countP fun b => decide (a < b) && joinedG G a b) (fun a _ => Nat.le_trans List.countP_le_length (by have := HG.out.2.2.2.1; have := HG.out.2.2.2.2; omega))
          have h2 : (ks.take i).length ≤ 40 := by rw [List.length_take]; have := HG.out.2.2.2.1; have := HG.out.2.2.2.2; omega
          omega
        by_cases hiM : i < M
        · obtain ⟨a, ha⟩ : ∃ a, ks[i]? = some a := ⟨_, List.getElem?_eq_getElem (by have := HG.out.2.2.2.1; omega)⟩
          have hS1 := sumBy_snoc (fun a => (hG G a).length) ha
          have hC1 := sumBy_snoc (fun a => ks.countP fun b => decide (a < b) && joinedG G a b) ha
          obtain ⟨gb, rfl, -, -, hc⟩ := row_cell (HI.out.row H4.out.1 (fun b hb => .inr hb)) (k := i) (u := .int .u32 a) (by simp [KA.u32s, ha])
          have has : (getE G a).isSome = true := (mem_keysE HG.out.1.rise a).1 (by rw [HG.out.2.1]; exact List.mem_of_getElem? ha)
          obtain ⟨⟨PP, L⟩, hx⟩ := Option.isSome_iff_exists.1 has
          have hL16 : L.length ≤ 16 := by have := HG.out.1.few a; rwa [hG_some hx] at this
          have ha32 := HG.out.1.in32 has
          have HD := Lib.hid (hops_read HI.out HG.out.1 HS.out.2.2 (deg_ok (HG.out.1.num hx)) (wf_of rfl ha32 rfl) (.inr rfl) (by have := HG.out.2.2.2.2; omega))
          unfold RdPost at HD
          rw [(deg_ref hx).1, (deg_ref hx).2] at HD
          obtain ⟨d, hd⟩ : ∃ d, L.length = d := ⟨_, rfl⟩
          simp only [hd] at HD
          rw [show ([⟨1, (d : Int), ⟨#[]⟩⟩] : List Av).length = 1 from rfl] at HD
          simp only [hG_some hx] at hS1
          rw [hd] at hL16 hS1
          obtain ⟨Si, hSi⟩ : ∃ Si, sumBy (fun a => (hG G a).length) (ks.take i) = Si := ⟨_, rfl⟩
          obtain ⟨Ci, hCi⟩ : ∃ Ci, sumBy (fun a => ks.countP fun b => decide (a < b) && joinedG G a b) (ks.take i) = Ci := ⟨_, rfl⟩
          rw [hSi] at hS1 hSb ⊢
          rw [hCi] at hC1 hCb ⊢
          have hSb' : (Si : Int) ≤ 640 := by omega
          have hCb' : (Ci : Int) ≤ 1600 := by omega
          have hd' : (d : Int) ≤ 16 := by omega
          have hi1 : i + 1 ≤ M := hiM
          have HX := Lib.hid (And.intro hx (And.intro ha32 (And.intro hS1 hC1)))
          clear ha hx has ha32 hL16 hS1 hC1 hSb hCb hd hSi hCi
          go_wp2_with fail
          refine HD.out.mono ?_
          rintro e w5 ⟨av, cv, al, cl, rfl, rowV, -, h5, -⟩
          have bl := (Below.refl _ w5).alloc (Nat.le_refl _) (.cells #[.int .i64 0, .int .i64 0, .slice av 1 cv, .slice al 0 cl] 39)
          have kb := heap_alloc_new w5 (.cells #[.int .i64 0, .int .i64 0, .slice av 1 cv, .slice al 0 cl] 39)
          have h6 := h5.below bl
          obtain ⟨pv, rfl, -, -, hcv⟩ := row_av (row_turned rowV (below_any (G := fun _ => False) bl) (fun _ _ h => h)) (by simp)
          have hcv1 := hcv 1 (.int .i64 d) rfl
          obtain ⟨y, hy⟩ : ∃ y, w5.heap.size = y := ⟨_, rfl⟩
          obtain ⟨w6, hw6⟩ : ∃ w6, w5.alloc (.cells #[.int .i64 0, .int .i64 0, .slice (some ⟨pv, 0, none⟩) 1 cv, .slice al 0 cl] 39) = w6 := ⟨_, rfl⟩
          rw [hw6] at kb h6 hcv1
          rw [hy] at kb
          have hb0 : w6.cell? ⟨y, 0, none⟩ = some (.int .i64 0) ∧ w6.cell? ⟨y, 2, none⟩ = some (.slice (some ⟨pv, 0, none⟩) 1 cv) := by simp [World.cell?, kb]
          obtain ⟨hb0, hb2⟩ := hb0
          have HL2 := Lib.hid (hops_list h6 (by have := HG.out.2.2.2.2; omega))
          rw [HG.out.2.2.1, HG.out.2.1] at HL2
          clear rowV bl kb h5 h6 hcv HD hc
          go_wp2_with fail
          refine HL2.out.mono ?_
          rintro e w7 ⟨ao7, cap7, rfl, row7, h7o, h7⟩
          have row7 := row_base row7 (Nat.zero_le _)
          have H7 := Lib.hid (And.intro row7 (And.intro h7o h7))
          clear row7 h7o h7 HL2 hb0 hb2 hcv1
          go_wp2_with fail
          go_loopw [7, 63] (fun t u wr => ∃ j : Nat, u = .int .i64 j ∧ j ≤ M ∧ t = .int .i64 (Ci + (ks.take j).countP (fun b => decide (a < b) && joinedG G a b) : Nat) ∧ Hid (HopsAt w g G (fun k => (False ∨ (Value.slice (some ⟨gb, 0, none⟩) M cap).ownBlock = some k) ∨ (Value.slice ao7 M cap7).ownBlock = some k) w7 (100 * i + 1 + 2 * j) wr)) (fun _ u _ => M + 1 - (intOf u).toNat)
          case atStart => exact ⟨0, rfl, Nat.zero_le _, rfl, Lib.hid H7.out.2.2⟩
          case round =>
            obtain ⟨j, rfl, hj, rfl, HJ⟩ := hrel
            by_cases hjM : j < M
            · obtain ⟨b, hb⟩ : ∃ b, ks[j]? = some b := ⟨_, List.getElem?_eq_getElem (by have := HG.out.2.2.2.1; omega)⟩
              have hcnt := countP_snoc (fun b => decide (a < b) && joinedG G a b) hb
              have hcl : (ks.take j).countP (fun b => decide (a < b) && joinedG G a b) ≤ 40 := Nat.le_trans List.countP_le_length (by rw [List.length_take]; have := HG.out.2.2.2.2; have := HG.out.2.2.2.1; omega)
              obtain ⟨g7, rfl, -, -, hc⟩ := row_cell (HJ.out.row H7.out.1 (fun b hb => .inr hb)) (k := j) (u := .int .u32 b) (by simp [KA.u32s, hb])
              have hbs : (getE G b).isSome = true := (mem_keysE HG.out.1.rise b).1 (by rw [HG.out.2.1]; exact List.mem_of_getElem? hb)
              obtain ⟨xb, hxb⟩ := Option.isSome_iff_exists.1 hbs
              have hb32 := HG.out.1.in32 hbs
              obtain ⟨cj, hcj⟩ : ∃ cj, (ks.take j).countP (fun b => decide (a < b) && joinedG G a b) = cj := ⟨_, rfl⟩
              rw [hcj] at hcnt hcl ⊢
              have hcl' : ((Ci + cj : Nat) : Int) ≤ 1640 := by omega
              have hj1 : j + 1 ≤ M := hjM
              have HY := Lib.hid (And.intro hxb (And.intro hb32 hcnt))
              clear hb hbs hxb hb32 hcnt hcl hcj
              by_cases hba : b ≤ a
              · have hf : ¬ a < b := by omega
                have HE := Lib.hid (show (ks.take (j + 1)).countP (fun b => decide (a < b) && joinedG G a b) = cj from by rw [HY.out.2.2]; simp [hf])
                have hm := hops_mono HJ.out (show 100 * i + 1 + 2 * j ≤ 100 * i + 1 + 2 * (j + 1) by omega)
                have HM := Lib.hid hm
                clear hf hm
                go_wp2_with fail
                go_roundw
                case rel => exact ⟨j + 1, by go_num, hj1, by rw [HE.out], HM⟩
                case measure => simp [intOf] <;> omega
              · have hne : b ≠ a := by omega
                have hab : a < b := by omega
                have HD := Lib.hid (hops_read HJ.out HG.out.1 HS.out.2.2 (edge_ok (HG.out.1.num HX.out.1) (HG.out.1.num HY.out.1) hne) (wf_of rfl HX.out.2.1 HY.out.2.1) (.inl rfl) (by have := HG.out.2.2.2.2; omega))
                unfold RdPost at HD
                rw [(edge_ref HX.out.1).1, (edge_ref HX.out.1).2] at HD
                obtain ⟨E, hE⟩ : ∃ E, edgeE G a b = E := ⟨_, rfl⟩
                obtain ⟨l, hl⟩ : ∃ l, edgeV G a b = l := ⟨_, rfl⟩
                obtain ⟨nl, hnl⟩ : ∃ nl, l.length = nl := ⟨_, rfl⟩
                have hl1 : nl ≤ 1 := by rw [← hnl, ← hl]; exact edgeV_len G a b
                rw [hE, hl, hnl] at HD
                have HE := Lib.hid (And.intro hE (And.intro hl (And.intro hnl (And.intro hl1 (And.intro hab (Ne.symm hne))))))
                clear hne hab hE hl hnl hl1
                go_wp2_with fail
                refine HD.out.mono ?_
                rintro e w8 ⟨av8, cv8, al8, cl8, rfl, rowV, rowL, h8o, h8⟩
                have h9 := h8.keep (.cells #[.int .i64 E, .int .i64 0, .slice av8 nl cv8, .slice al8 0 cl8] 39)
                have bl := (Below.refl _ w8).alloc (Nat.le_refl _) (.cells #[.int .i64 E, .int .i64 0, .slice av8 nl cv8, .slice al8 0 cl8] 39)
                have kb := heap_alloc_new w8 (.cells #[.int .i64 E, .int .i64 0, .slice av8 nl cv8, .slice al8 0 cl8] 39)
                have h9o := h8o.below bl
                have rowV9 := row_base (row_turned rowV (below_any (G := fun _ => False) bl) (fun _ _ h => h)) (Nat.zero_le _)
                have rowL9 := row_base (row_turned rowL (below_any (G := fun _ => False) bl) (fun _ _ h => h)) (Nat.zero_le _)
                obtain ⟨y, hy⟩ : ∃ y, w8.heap.size = y := ⟨_, rfl⟩
                obtain ⟨w9, hw9⟩ : ∃ w9, w8.alloc (.cells #[.int .i64 E, .int .i64 0, .slice av8 nl cv8, .slice al8 0 cl8] 39) = w9 := ⟨_, rfl⟩
                rw [hw9] at h9 kb h9o rowV9 rowL9
                rw [hy] at h9 kb
                have HD2 := Lib.hid (hops_read h9 HG.out.1 HS.out.2.2 (edge_ok (HG.out.1.num HY.out.1) (HG.out.1.num HX.out.1) HE.out.2.2.2.2.2) (wf_of rfl HY.out.2.1 HX.out.2.1) (.inl rfl) (by have := HG.out.2.2.2.2; omega))
                unfold RdPost at HD2
                rw [(edge_ref HY.out.1).1, (edge_ref HY.out.1).2, ← (edge_sym HG.out.1 a b).1, ← (edge_sym HG.out.1 a b).2, HE.out.1, HE.out.2.1, HE.out.2.2.1] at HD2
                have H9 := Lib.hid (And.intro h9o (And.intro h9 (And.intro kb (And.intro rowV9 rowL9))))
                clear rowV rowL h8o h8 h9 bl kb h9o rowV9 rowL9 HD hc
                go_wp2_with fail
                refine HD2.out.mono ?_
                rintro e wa ⟨ava, cva, ala, cla, rfl, rowVa, rowLa, hao, -⟩
                have kba := (hao.heap (.inr rfl)).trans H9.out.2.2.1
                have rowV1 := hao.row H9.out.2.2.2.1 (fun b hb => .inl (.inl (.inr hb)))
                have rowL1 := hao.row H9.out.2.2.2.2 (fun b hb => .inl (.inr hb))
                have bl := (Below.refl _ wa).alloc (Nat.le_refl _) (.cells #[.int .i64 E, .int .i64 0, .slice ava nl cva, .slice ala 0 cla] 39)
                have kz := heap_alloc_new wa (.cells #[.int .i64 E, .int .i64 0, .slice ava nl cva, .slice ala 0 cla] 39)
                have kyb := (bl.block y (Array.getElem?_eq_some_iff.1 kba).1).trans kba
                have hbo := hao.below bl
                have hfin := hops_back H9.out.1 hbo (fun k hk => .inl (.inl (.inl hk)))
                obtain ⟨z, hz⟩ : ∃ z, wa.heap.size = z := ⟨_, rfl⟩
                obtain ⟨wc, hwc⟩ : ∃ wc, wa.alloc (.cells #[.int .i64 E, .int .i64 0, .slice ava nl cva, .slice ala 0 cla] 39) = wc := ⟨_, rfl⟩
                have HS2 := Lib.hid (same_any _ _ _ _ E 0 _ _ _ _ nl 0 l [] wc (hwc ▸ row_turned rowV1 (below_any (G := fun _ => False) bl) (fun _ _ h => h)) (hwc ▸ row_turned rowVa (below_any (G := fun _ => False) bl) (fun _ _ h => h)) HE.out.2.2.1.symm (by have := HE.out.2.2.2.1; omega) (hwc ▸ row_turned rowL1 (below_any (G := fun _ => False) bl) (fun _ _ h => h)) (hwc ▸ row_turned rowLa (below_any (G := fun _ => False) bl) (fun _ _ h => h)) rfl (by omega))
                rw [hwc] at kz kyb hfin
                rw [hz] at kz
                have qy : wc.cell? ⟨y, 0, none⟩ = some (.int .i64 E) ∧ wc.cell? ⟨y, 1, none⟩ = some (.int .i64 0) ∧ wc.cell? ⟨y, 2, none⟩ = some (.slice av8 nl cv8) ∧ wc.cell? ⟨y, 3, none⟩ = some (.slice al8 0 cl8) := by simp [World.cell?, kyb]
                have qz : wc.cell? ⟨z, 0, none⟩ = some (.int .i64 E) ∧ wc.cell? ⟨z, 1, none⟩ = some (.int .i64 0) ∧ wc.cell? ⟨z, 2, none⟩ = some (.slice ava nl cva) ∧ wc.cell? ⟨z, 3, none⟩ = some (.slice ala 0 cla) := by simp [World.cell?, kz]
                obtain ⟨y0, y1, y2, y3⟩ := qy
                obtain ⟨z0, z1, z2, z3⟩ := qz
                have HC := Lib.hid (And.intro hfin kyb)
                clear kba rowV1 rowL1 rowVa rowLa bl kz kyb hbo hfin hao HD2 H9
                go_wp2_with fail
                refine HS2.out.mono ?_
                rintro e wd ⟨rfl, hbd⟩
                have kyd := (hbd.block y (Array.getElem?_eq_some_iff.1 HC.out.2).1).trans HC.out.2
                have hfd := hops_mono (HC.out.1.below hbd) (show 100 * i + 1 + 2 * j + 1 + 1 ≤ 100 * i + 1 + 2 * (j + 1) by omega)
                have qd : wd.cell? ⟨y, 0, none⟩ = some (.int .i64 E) := by simp [World.cell?, kyd]
                have HF := Lib.hid hfd
                clear y0 y1 y2 y3 z0 z1 z2 z3 hbd kyd hfd HC HS2
                by_cases hJ : joinedG G a b = true
                · have hE0 : E = 0 := by rw [← HE.out.1]; unfold edgeE; rw [if_pos hJ]
                  subst hE0
                  have HK := Lib.hid (show (ks.take (j + 1)).countP (fun b => decide (a < b) && joinedG G a b) = cj + 1 from by rw [HY.out.2.2]; simp [HE.out.2.2.2.2.1, hJ])
                  clear hJ
                  go_wp2_with fail
                  go_roundw
                  case rel => exact ⟨j + 1, by go_num, hj1, by rw [HK.out]; go_num, HF⟩
                  case measure => simp [intOf] <;> omega
                · have hE0 : E = 6 := by rw [← HE.out.1]; unfold edgeE; rw [if_neg hJ]
                  subst hE0
                  have HK := Lib.hid (show (ks.take (j + 1)).countP (fun b => decide (a < b) && joinedG G a b) = cj from by rw [HY.out.2.2]; simp [hJ])
                  clear hJ
                  go_wp2_with fail
                  go_roundw
                  case rel => exact ⟨j + 1, by go_num, hj1, by rw [HK.out, Int.natCast_add], HF⟩
                  case measure => simp [intOf] <;> omega
            · have hjE : M = j := by omega
              subst hjE
              have htk : ks.take M = ks := by rw [HG.out.2.2.2.1]; exact List.take_length
              rw [htk]
              have hfin := hops_mono (hops_back H7.out.2.1 HJ.out (fun k hk => .inl hk)) (show 100 * i + 1 + 2 * M ≤ 100 * (i + 1) by have := HG.out.2.2.2.2; omega)
              have HF := Lib.hid hfin
              clear hjM hj htk hfin
              go_wp2_with fail
              go_roundw
              case rel => exact ⟨i + 1, by go_num, hi1, by rw [HX.out.2.2.1]; go_num, by rw [HX.out.2.2.2], HF⟩
              case measure => simp [intOf] <;> omega
        · have hiE : M = i := by omega
          subst hiE
          have hdeg := degrees HG.out.1
          rw [HG.out.2.1] at hdeg
          have htk : ks.take M = ks := by rw [HG.out.2.2.2.1]; exact List.take_length
          rw [htk] at hSb hCb ⊢
          rw [hdeg] at hSb ⊢
          obtain ⟨C, hC⟩ : ∃ C, sumBy (fun a => ks.countP fun b => decide (a < b) && joinedG G a b) ks = C := ⟨_, rfl⟩
          rw [hC] at hSb hCb ⊢
          have hCb' : (C : Int) ≤ 1600 := by omega
          have hcast : ((2 * C : Nat) : Int) = 2 * (C : Int) := by omega
          rw [hcast]
          have HB := Lib.hid HI.out.bel
          clear hiM hi hSb hCb hdeg htk hC HI hcast
          go_wp2_with fail
          go_ret
          exact ⟨by simp, HB.out⟩
end Go.Proofs.YtafenkepigmcaaaGreatDoor.Gr
