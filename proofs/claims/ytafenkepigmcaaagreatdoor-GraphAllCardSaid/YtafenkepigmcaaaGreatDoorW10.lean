/- graph: GraphAll walked. -/
import Derived.Test.YtafenkepigmcaaaGreatDoorW9
namespace Go.Proofs.YtafenkepigmcaaaGreatDoor.Gr
open Go Go.RowKit YtafenkepigmcaaaGreatDoor.So
set_option maxRecDepth 100000 in
theorem field_E (E a : Int) (v l : Value) (w : World) : (Instr.field 39 (.agg #[.int .i64 E, .int .i64 a, v, l]) 0).run Tryz.prog w = .ok (.int .i64 E) w := by kernel_rfl
theorem slice_ops {b off n c k : Nat} (hk : k ≤ n) (hn : n ≤ c) : ∀ w, (Instr.slice 31 (.slice (some ⟨b, off, none⟩) n c) none (some (.int .i64 k)) none).run Tryz.prog w = .ok (.slice (some ⟨b, off, none⟩) k c) w := fun w => by
  have h1 : k ≤ c := by omega
  simp [Instr.slice, Instr.sliceBounds, Instr.sliceBound, asIntOf, go_sem, h1]
theorem rdo_form {w : World} {ao : Option Addr} {os : List Ox} (h : RdO w ao os) (h0 : 0 < os.length) : ∃ b off, ao = some ⟨b, off, none⟩ := by
  obtain ⟨o, ho⟩ : ∃ o, os[0]? = some o := ⟨_, List.getElem?_eq_getElem h0⟩
  obtain ⟨b, off, e, _⟩ := h 0 o ho
  exact ⟨b, off, e⟩
theorem vr_eta (t : Vr) {po ho : Option Addr} {np cp nl cl : Nat} (h1 : t.pv = .slice po np cp) (h2 : t.hv = .slice ho nl cl) : t = ⟨t.id, t.th, .slice po np cp, .slice ho nl cl⟩ := by
  cases t; simp only at h1 h2; rw [h1, h2]
set_option maxRecDepth 100000 in
set_option maxHeartbeats 8000000 in
theorem all_any (rs : List Rq) (so : Option Addr) (sc : Nat) (os : List Ox) (ao : Option Addr) (cap : Nat) (w : World) (he : Flt.ErrT w) (hS : RdS w so rs) (hl : rs.length ≤ maxLen) (hO : RdO w ao os) (hno : ao = none → cap = 0) (hwf : ∀ o ∈ os, o.wf) (hb48 : os.length * 48 ≤ 140737488355328) (hcap : os.length ≤ cap) : Calls Tryz.prog 5 #[.slice so rs.length sc, .slice ao os.length cap] w (SaysYes w) := by
  obtain ⟨N, hN⟩ : ∃ N, rs.length = N := ⟨_, rfl⟩
  obtain ⟨m, hm⟩ : ∃ m, os.length = m := ⟨_, rfl⟩
  rw [hN] at hl ⊢
  rw [hm] at hcap ⊢
  have HS := Lib.hid (And.intro hS (And.intro hN he))
  have HO := Lib.hid (And.intro hO (And.intro hno (And.intro hwf (And.intro hb48 hm))))
  have hl' : (N : Int) ≤ 9223372036854775807 := by unfold maxLen at hl; omega
  have hm48 : m ≤ 2932031007403 := by omega
  clear hS hN he hl hO hno hwf hb48 hm
  go_enter Tryz.func5, Tryz.ntmps5
  go_wp2_with fail
  refine (awake_any w HS.out.2.2).mono ?_
  rintro e w1 ⟨rfl, hb1⟩
  have H1 := Lib.hid hb1
  clear hb1
  go_wp2_with fail
  refine (new_any w1).mono ?_
  rintro e w2 ⟨rfl, hgp, hb2⟩
  obtain ⟨g, hg⟩ : ∃ g, w1.heap.size + 2 = g := ⟨_, rfl⟩
  rw [hg] at hgp ⊢
  have HA := Lib.hid (LawAt.start hgp (fun k hk => by have := H1.out.size; omega) (H1.out.trans (hb2.mono H1.out.size)))
  clear hgp hb2 hg
  go_wp2_with fail
  go_loopw [21] (fun u wr => ∃ i : Nat, u = .int .i64 i ∧ i ≤ N ∧ Hid (LawAt w g i wr)) (fun u _ => N + 1 - (intOf u).toNat)
  case atStart => exact ⟨0, rfl, Nat.zero_le _, HA⟩
  case round =>
    obtain ⟨i, rfl, hi, HI⟩ := hrel
    by_cases hiN : i < N
    · obtain ⟨⟨kd, os1, V, K, To⟩, ho⟩ : ∃ r, rs[i]? = some r := ⟨_, List.getElem?_eq_getElem (by have := HS.out.2.1; omega)⟩
      obtain ⟨b, off, ao1, cap1, rfl, hbl, q0, q1, q2, q3, q4, q5, q7, q8, q9, q10⟩ := (HS.out.1.below HI.out.bel) i _ ho
      simp only at q0 q1 q2 q3 q4 q5 q8 q9 q10
      obtain ⟨nO, hnO⟩ : ∃ nO, os1.length = nO := ⟨_, rfl⟩
      rw [hnO] at q1
      have hi1 : i + 1 ≤ N := hiN
      have hb3 := (Below.refl wr.heap.size wr).alloc (Nat.le_refl _) (.cells #[.int .u8 kd, .slice ao1 nO cap1, .int .u32 V, .int .i64 K, .int .i64 To] 33)
      have HQ := Lib.hid (And.intro hb3 (And.intro (q5.on (K := fun _ => False) (below_any hb3) (fun _ _ h => h)) (And.intro q7 (And.intro q8 (And.intro q9 (And.intro q10 hnO))))))
      clear ho hbl q5 q7 q8 q9 q10 hb3 hnO
      by_cases h80 : i < 40
      · have HC := Lib.hid (LawAt.ask (r := ⟨kd, os1, V, K, To⟩) (cap := cap1) (HI.out.below HQ.out.1) (by omega) HS.out.2.2 HQ.out.2.1 HQ.out.2.2.1 HQ.out.2.2.2.1 HQ.out.2.2.2.2.1 HQ.out.2.2.2.2.2.1)
        unfold Rq.val at HC
        simp only at HC
        rw [HQ.out.2.2.2.2.2.2] at HC
        go_wp2_with fail
        refine HC.out.mono ?_
        rintro e w3 ⟨vr, rfl, ha⟩
        have H3 := Lib.hid ha
        clear ha HC HQ
        go_wp2_with fail
        go_roundw
        case rel => exact ⟨i + 1, by go_num, hi1, H3⟩
        case measure => simp [intOf] <;> omega
      · go_wp2_with fail
        go_roundw
        case rel => exact ⟨i + 1, by go_num, hi1, Lib.hid ((HI.out.below HQ.out.1).skip)⟩
        case measure => simp [intOf] <;> omega
    · have hiE : N = i := by omega
      subst hiE
      clear hiN hi
      obtain ⟨G, hok, hops⟩ := HI.out.hops
      have HG := Lib.hid (And.intro hok hops)
      have hbA := (Below.refl wr.heap.size wr).alloc (Nat.le_refl _) (.cells #[.int .u8 1, .slice ao m cap, .int .u32 0, .int .i64 0, .int .i64 0] 33)
      have k8 := heap_alloc_new wr (.cells #[.int .u8 1, .slice ao m cap, .int .u32 0, .int .i64 0, .int .i64 0] 33)
      have hO8 : RdO (wr.alloc (.cells #[.int .u8 1, .slice ao m cap, .int .u32 0, .int .i64 0, .int .i64 0] 33)) ao os := HO.out.1.on (K := fun _ => False) (below_any (hops.bel.trans (hbA.mono hops.bel.size))) (fun _ _ h => h)
      have HCK := Lib.hid (check_any (rTx os) ao cap _ hO8 (fun o ho => (HO.out.2.2.1 o ho).sz))
      unfold Rq.val rTx at HCK
      simp only at HCK
      rw [HO.out.2.2.2.2] at HCK
      obtain ⟨C, hC⟩ : ∃ C, chkR ⟨1, os, 0, 0, 0⟩ = C := ⟨_, rfl⟩
      rw [hC] at HCK
      have HC := Lib.hid hC
      have H8 := Lib.hid (And.intro hbA (And.intro k8 hO8))
      clear hok hops hbA k8 hO8 hC HI HA
      go_wp2_with fail
      obtain ⟨z8, hz8⟩ : ∃ z8, wr.heap.size = z8 := ⟨_, rfl⟩
      obtain ⟨w8, hw8⟩ : ∃ w8, wr.alloc (.cells #[.int .u8 1, .slice ao m cap, .int .u32 0, .int .i64 0, .int .i64 0] 33) = w8 := ⟨_, rfl⟩
      rw [hw8] at H8 HCK ⊢
      rw [hz8]
      have H8 := Lib.hid (And.intro H8.out.1 (And.intro (hz8 ▸ H8.out.2.1) (And.intro hz8 H8.out.2.2)))
      clear hw8 hz8
      refine HCK.out.mono ?_
      rintro e w9 ⟨rfl, hb9⟩
      have k9 := (hb9.block z8 (Array.getElem?_eq_some_iff.1 H8.out.2.1).1).trans H8.out.2.1
      have hbw9 : Below wr.heap.size wr w9 := H8.out.1.trans (hb9.mono H8.out.1.size)
      have H9 := Lib.hid (And.intro hbw9 k9)
      clear hb9 hbw9 k9 HCK
      by_cases hC0 : C = 0
      · subst hC0
        obtain ⟨F, n, hgp, h40, hn2, hF, hbel, hKl, htt⟩ := HG.out.2
        have hgp9 := hgp.below H9.out.1
        have HL := Lib.hid (list_any g n F G w9 hgp9 (by omega))
        have HF := Lib.hid (And.intro hgp (And.intro (show n ≤ 1000000000000 by omega) hbel))
        obtain ⟨ks, hks⟩ : ∃ ks, keysE G = ks := ⟨_, rfl⟩
        have hG40 : G.length = ks.length := by rw [← hks, keysE_len]
        have hMs : G.length ≤ 1000000 := by
          obtain ⟨mp, me, bp, be, hh⟩ := hgp
          have := hh.props.size
          rw [mapE_len] at this
          omega
        obtain ⟨M, hM⟩ : ∃ M, G.length = M := ⟨_, rfl⟩
        rw [hM] at HL hG40 hMs
        rw [hks] at HL
        have HM := Lib.hid (And.intro hG40 hks)
        clear hgp h40 hn2 hF hbel hKl htt hgp9 hks hM hG40
        go_wp2_with fail
        refine HL.out.mono ?_
        rintro e w10 ⟨lo, lcap, rfl, hrow, hb10⟩
        have H10 := Lib.hid (And.intro hrow hb10)
        obtain ⟨i0, hi0, hz0, hz1, hz2⟩ := info_parts info51
        have HII := Lib.hid (And.intro hi0 (And.intro hz0 (And.intro hz1 hz2)))
        clear hrow hb10 HL hi0 hz0 hz1 hz2
        go_wp2_with fail
        obtain ⟨wa, hwa⟩ : ∃ wa, wr = wa := ⟨_, rfl⟩
        rw [hwa] at H8 H9 HG HF
        clear hwa
        go_loopw [9, 40] (fun uv u wr => ∃ (i c5 : Nat) (a5 : Option Addr), u = .int .i64 i ∧ uv = .slice a5 i c5 ∧ i ≤ M ∧ Hid (∃ l : List Vr, l.length = i ∧ l.map Vr.id = ks.take i ∧ Noted w10 G l (.slice a5 i c5) wr)) (fun _ u _ => M + 1 - (intOf u).toNat)
        case atStart => exact ⟨0, 0, none, rfl, rfl, Nat.zero_le _, Lib.hid ⟨[], rfl, rfl, World.ownsRow_nil _ _ _ _, (fun t ht => by cases ht), .refl _ _⟩⟩
        case round =>
          obtain ⟨i, c5, a5, rfl, rfl, hi, HI⟩ := hrel
          obtain ⟨l, hll, hids, hno⟩ := HI.out
          have HNo := Lib.hid (And.intro hll (And.intro hids hno))
          clear hll hids hno HI
          by_cases hiM : i < M
          · obtain ⟨v, hv⟩ : ∃ v, ks[i]? = some v := ⟨_, List.getElem?_eq_getElem (by have := HM.out.1; omega)⟩
            have hvs : (getE G v).isSome = true := by
              rw [← mem_keysE HG.out.1.rise, HM.out.2]
              exact List.mem_of_getElem? hv
            have hbr : Below w9.heap.size w9 wr := H10.out.2.trans (HNo.out.2.2.bel.mono H10.out.2.size)
            have hcell := row_turned H10.out.1 (below_any (G := fun _ => False) HNo.out.2.2.bel) (fun _ _ h => h)
            obtain ⟨gb, rfl, -, -, hc0⟩ := row_cell hcell (k := i) (u := .int .u32 v) (by simp [KA.u32s, hv])
            have HV := Lib.hid (vertex_any g n F G v wr (HF.out.1.below (H9.out.1.trans (hbr.mono H9.out.1.size))) HF.out.2.1 (fun e he => (HG.out.1.sizes e he).1) (HG.out.1.in32 hvs))
            have hi1 : i + 1 ≤ M := hiM
            have HVv := Lib.hid hv
            clear hv hvs hbr hcell
            go_wp2_with fail
            refine HV.out.mono ?_
            rintro e w3 ⟨th3, pv, hv, rfl, hvx, hb3⟩
            obtain ⟨po3, np3, cp3, ho3, nl3, cl3, rfl, rfl⟩ := hvx.slices
            have HR3 := Lib.hid (show w3.ownsRow w10.heap.size 51 4 (.slice a5 i c5) i (vCells l) from by have := (HNo.out.2.2.below hb3).row; rwa [HNo.out.1] at this)
            have H3 := Lib.hid (And.intro hvx hb3)
            have hsz3 : w10.heap.size ≤ w3.heap.size := (HNo.out.2.2.below hb3).bel.size
            have him : i ≤ 1000000 := by omega
            clear hvx hb3 HV hc0
            go_wp2_with (at_builtin; refine wpList_append_lies _ rfl (.tmp 44) (.tmp 48) 28 rfl w10.heap.size 51 i0 _ 4 56 Tryz.underlying28 HII.out.1 HII.out.2.1 HII.out.2.2.1 HII.out.2.2.2 rfl (by decide) (.slice a5 i c5) i (vCells l) rfl (HR3.out.alloc _) ⟨w3.heap.size, 0, none⟩ 1 1 [.int .u32 v, .bool th3, .slice po3 np3 cp3, .slice ho3 nl3 cl3] rfl (by first | rfl | simp) (vNew v th3 _ _ w3 51) (vOne v th3 _ _ _ _ _ _) (by decide) (by unfold maxLen; omega) (by omega) (by simp; omega) (w3.heap.size + 1) (by simp) ?_; intro g4 cap3 w4 hown4 hgrow4 _ _; have HN3 := Lib.hid (Noted.more (v' := .slice (some ⟨g4, 0, none⟩) (i + 1) cap3) (t := ⟨v, th3, .slice po3 np3 cp3, .slice ho3 nl3 cl3⟩) HNo.out.2.2 H3.out.2 H3.out.1 hgrow4 (by rw [HNo.out.1]; exact hown4)); clear hown4 hgrow4)
            go_roundw
            case rel => exact ⟨i + 1, cap3, _, by go_num, rfl, hi1, Lib.hid ⟨_, by rw [List.length_append, HNo.out.1]; rfl, by rw [List.map_append, HNo.out.2.1, List.take_add_one, HVv.out]; rfl, HN3.out⟩⟩
            case measure => simp [intOf] <;> omega
          · have hiE : M = i := by omega
            subst hiE
            clear hiM hi
            have hbx : Below wa.heap.size wa wr := H9.out.1.trans ((H10.out.2.trans (HNo.out.2.2.bel.mono H10.out.2.size)).mono H9.out.1.size)
            have hD := HG.out.2.mark hbx
            have HBf := Lib.hid HNo.out.2.2.bef
            have k8x := ((H10.out.2.trans (HNo.out.2.2.bel.mono H10.out.2.size)).block z8 (Array.getElem?_eq_some_iff.1 H9.out.2).1).trans H9.out.2
            have HT := Lib.hid (hD.tx HG.out.1 HS.out.2.2 (by omega) (r := rTx os) (cap := cap) (HO.out.1.on (K := fun _ => False) (below_any hD.bel) (fun _ _ h => h)) HO.out.2.1 HO.out.2.2.2.1 HO.out.2.2.1 (by show In32 0; unfold In32 InQ; decide))
            have HD := Lib.hid (And.intro hD k8x)
            have hwa10 : Hid (wa.heap.size ≤ w10.heap.size) := Lib.hid (Nat.le_trans H9.out.1.size H10.out.2.size)
            have hz8a : Hid (wa.heap.size ≤ z8 ∧ z8 < wr.heap.size) := Lib.hid ⟨Nat.le_of_eq H8.out.2.2.1, (Array.getElem?_eq_some_iff.1 k8x).1⟩
            unfold DoneR Rq.val rTx at HT
            simp only at HT
            rw [HO.out.2.2.2.2] at HT
            obtain ⟨x0, x1, x2, x3, x4⟩ := bq k8x
            have hck : chkR (rTx os) = 0 := HC.out
            have HCk := Lib.hid hck
            have ean := ans_tx (G := G) hck
            have HEx := Lib.hid ean
            clear hbx hD k8x hck
            cases hbad : badG G os with
            | none =>
              rw [hbad] at ean
              have HAn : Hid (ansG G ⟨1, os, 0, 0, 0⟩ = ⟨0, 0, valG G os, []⟩) := Lib.hid ean
              rw [HAn.out] at HT
              clear ean hbad
              go_wp2_with fail
              refine HT.out.mono ?_
              rintro e w11 ⟨vo, cv, lo2, cl2, rfl, hbe, -⟩
              have HB := Lib.hid (hbe.alloc hbe.size (.cells #[.int .i64 0, .int .i64 0, .slice vo (valG G os).length cv, .slice lo2 0 cl2] 39))
              clear hbe HT
              go_wp2_with fail
              go_ret
              exact ⟨rfl, HB.out⟩
            | some p =>
              obtain ⟨at_, c⟩ := p
              rw [hbad] at ean
              have HAn : Hid (ansG G ⟨1, os, 0, 0, 0⟩ = ⟨c, at_, [], []⟩) := Lib.hid ean
              have hnx : nextG G ⟨1, os, 0, 0, 0⟩ = G := next_tx HCk.out hbad
              obtain ⟨hat1, hc0, hbt⟩ := bad_math hbad
              rw [HO.out.2.2.2.2] at hat1
              rw [HAn.out, hnx] at HT
              have hcb : (c == 0) = false := beq_eq_false_iff_ne.2 hc0
              have HBt := Lib.hid hbt
              clear ean hbad hc0 hnx hbt
              go_wp2_with fail
              refine HT.out.mono ?_
              rintro e w11 ⟨vo, cv, lo2, cl2, rfl, -, hops2⟩
              have hops3 := hops2 (by first | rfl | trivial)
              have HBf2 : Hid (Bef w10.heap.size G l (.slice a5 M c5) w11) := Lib.hid (HBf.out.held (fun k h1 h2 => hops3.heap ⟨Nat.le_trans hwa10.out h1, h2⟩))
              have k8y : w11.heap[z8]? = _ := (hops3.heap hz8a.out).trans HD.out.2
              have hb12 := (Below.refl w11.heap.size w11).alloc (Nat.le_refl _) (.cells #[.int .i64 c, .int .i64 at_, .slice vo 0 cv, .slice lo2 0 cl2] 39)
              have k12 := heap_alloc_new w11 (.cells #[.int .i64 c, .int .i64 at_, .slice vo 0 cv, .slice lo2 0 cl2] 39)
              have H12 := Lib.hid (And.intro hb12 (And.intro k12 (And.intro k8y (hops3.below hb12))))
              clear hops2 hops3 k8y hb12 k12 HT x0 x1 x2 x3 x4
              go_wp2_with fail
              obtain ⟨z12, hz12⟩ : ∃ z12, w11.heap.size = z12 := ⟨_, rfl⟩
              obtain ⟨w12, hw12⟩ : ∃ w12, w11.alloc (.cells #[.int .i64 c, .int .i64 at_, .slice vo 0 cv, .slice lo2 0 cl2] 39) = w12 := ⟨_, rfl⟩
              rw [hw12] at H12 ⊢
              rw [hz12]
              have HZ := Lib.hid (show w12.heap[z12]? = _ from hz12 ▸ H12.out.2.1)
              have HF2 := Lib.hid H12.out.2.2.2
              clear hw12 hz12
              obtain ⟨F2, n2, hg2, h240, h2n, h2F, h2b, h2K, h2t⟩ := HF2.out
              have HL := Lib.hid (list_any g n2 F2 G w12 hg2 (by omega))
              rw [HM.out.2] at HL
              have hGM : G.length = M := by rw [HM.out.1, ← HM.out.2, keysE_len]
              rw [hGM] at HL
              clear hg2 h240 h2n h2F h2b h2K h2t hGM
              refine HL.out.mono ?_
              rintro e w13 ⟨lo3, lc3, rfl, hrow3, hb13⟩
              have H13 := Lib.hid (And.intro hrow3 hb13)
              have k12b := (hb13.block z12 (Array.getElem?_eq_some_iff.1 HZ.out).1).trans HZ.out
              have HZ13 := Lib.hid k12b
              obtain ⟨y0, y1, y2, y3⟩ := sv4 k12b
              have hat2 : ¬ ((at_ : Int) < 0) := by omega
              have hat3 : ¬ ((m : Int) ≤ (at_ : Int)) := by omega
              have hMM : ((M : Int) != (M : Int)) = false := by simp
              have hd1 : decide ((at_ : Int) < 0) = false := decide_eq_false hat2
              have hd2 : decide (m ≤ at_) = false := decide_eq_false (by omega)
              have hd3 : decide ((m : Int) ≤ (at_ : Int)) = false := decide_eq_false hat3
              clear hrow3 hb13 HL k12b
              go_wp2_with fail
              go_loopw [87] (fun u wr => ∃ i : Nat, u = .int .i64 i ∧ i ≤ M ∧ Hid (Below w13.heap.size w13 wr)) (fun u _ => M + 1 - (intOf u).toNat)
              case atStart => exact ⟨0, rfl, Nat.zero_le _, Lib.hid (.refl _ _)⟩
              case round =>
                clear y0 y1 y2 y3
                obtain ⟨i, rfl, hi, HI⟩ := hrel
                by_cases hiM : i < M
                · obtain ⟨v, hv⟩ : ∃ v, ks[i]? = some v := ⟨_, List.getElem?_eq_getElem (by have := HM.out.1; omega)⟩
                  have hvs : (getE G v).isSome = true := by
                    rw [← mem_keysE HG.out.1.rise, HM.out.2]
                    exact List.mem_of_getElem? hv
                  obtain ⟨⟨PP, L⟩, hx⟩ := Option.isSome_iff_exists.1 hvs
                  have hcell := row_turned H13.out.1 (below_any (G := fun _ => False) HI.out) (fun _ _ h => h)
                  obtain ⟨gb, rfl, -, -, hc0⟩ := row_cell hcell (k := i) (u := .int .u32 v) (by simp [KA.u32s, hv])
                  obtain ⟨t, ht⟩ : ∃ t, l[i]? = some t := ⟨_, List.getElem?_eq_getElem (by have := HNo.out.1; omega)⟩
                  have htid : t.id = v := by
                    have h1 : (l.map Vr.id)[i]? = some t.id := by rw [List.getElem?_map, ht]; rfl
                    rw [HNo.out.2.1, List.getElem?_take, if_pos hiM, hv] at h1
                    injection h1 with h1
                    exact h1.symm
                  have hb1r : Below w12.heap.size w12 wr := H13.out.2.trans (HI.out.mono H13.out.2.size)
                  have hb11 : Below w11.heap.size w11 wr := H12.out.1.trans (hb1r.mono H12.out.1.size)
                  have hB := HBf2.out.below hb11
                  obtain ⟨gb2, rfl, hgb2, d0, d1, d2, d3⟩ := hB.at_ ht
                  have hvx := hB.has t (List.mem_of_getElem? ht)
                  rw [htid, hx] at hvx
                  obtain ⟨po2, pc2, ho2, hc2, e1, e2, r1, r2, e3⟩ := hvx.lists
                  simp only [Option.getD_some, Option.isSome_some] at e1 e2 e3 r1 r2
                  rw [htid] at d0
                  rw [e3] at d1
                  rw [e1] at d2
                  rw [e2] at d3
                  have HV := Lib.hid (((H12.out.2.2.2.below hb1r).below (Below.refl _ wr).drew).there HG.out.1 (by omega) hx)
                  have hP12 : PP.length ≤ 1000000 := Nat.le_trans (HG.out.1.sizes _ (mem_of_get hx)).1 (by decide)
                  have hL40 : L.length ≤ 1000000 := Nat.le_trans (HG.out.1.sizes _ (mem_of_get hx)).2 (by decide)
                  have HSV := Lib.hid (fun (w' : World) (po ho : Option Addr) (pc hc : Nat) (hb : Below wr.heap.size wr w') (q1 : RdE .u8 w' po PP) (q2 : RdE .u32 w' ho L) => svw_any v true PP L po po2 ho ho2 pc pc2 hc hc2 w' q1 (r1.below hb) q2 (r2.below hb) hP12 hL40)
                  unfold ThereV at HV
                  obtain ⟨nP, hnP⟩ : ∃ nP, PP.length = nP := ⟨_, rfl⟩
                  obtain ⟨nL, hnL⟩ : ∃ nL, L.length = nL := ⟨_, rfl⟩
                  rw [hnP] at d2
                  rw [hnL] at d3
                  rw [hnP, hnL] at HV HSV
                  have hi1 : i + 1 ≤ M := hiM
                  clear hv hvs hx hcell ht htid hb1r hb11 hB hvx e1 e2 r1 r2 e3 hP12 hL40 hnP hnL
                  have D := And.intro d0 (And.intro d1 (And.intro d2 d3))
                  have HDD := Lib.hid D
                  go_upto_region 28 with fail
                  go_region_held3 (fun w' => w'.cell? ⟨gb2, i * 4, none⟩ = some (.int .u32 v) ∧ w'.cell? ⟨gb2, i * 4 + 1, none⟩ = some (.bool true) ∧ w'.cell? ⟨gb2, i * 4 + 2, none⟩ = some (.slice po2 nP pc2) ∧ w'.cell? ⟨gb2, i * 4 + 3, none⟩ = some (.slice ho2 nL hc2)) (first | exact HDD.out | exact U14 | exact U15) (first
                    | (go_at_call 24; refine HV.out.mono ?_; rintro e' w14 ⟨po, pc, ho, hc, rfl, hrP, hrH, hb14⟩; have hbb : Below wr.heap.size wr w14 := (Below.refl _ wr).drew.trans hb14; have U14 := And.intro ((hbb.cell (p := ⟨gb2, i * 4, none⟩) hgb2).trans HDD.out.1) (And.intro ((hbb.cell (p := ⟨gb2, i * 4 + 1, none⟩) hgb2).trans HDD.out.2.1) (And.intro ((hbb.cell (p := ⟨gb2, i * 4 + 2, none⟩) hgb2).trans HDD.out.2.2.1) ((hbb.cell (p := ⟨gb2, i * 4 + 3, none⟩) hgb2).trans HDD.out.2.2.2))); have H14 := Lib.hid (And.intro hbb (And.intro hrP hrH)); clear hrP hrH hb14 hbb)
                    | (go_at_call 25; refine (HSV.out w14 po ho pc hc H14.out.1 H14.out.2.1 H14.out.2.2).mono ?_; rintro e' w15 ⟨rfl, hb15⟩; have hbb : Below wr.heap.size wr w15 := H14.out.1.trans (hb15.mono H14.out.1.size); have U15 := And.intro ((hbb.cell (p := ⟨gb2, i * 4, none⟩) hgb2).trans HDD.out.1) (And.intro ((hbb.cell (p := ⟨gb2, i * 4 + 1, none⟩) hgb2).trans HDD.out.2.1) (And.intro ((hbb.cell (p := ⟨gb2, i * 4 + 2, none⟩) hgb2).trans HDD.out.2.2.1) ((hbb.cell (p := ⟨gb2, i * 4 + 3, none⟩) hgb2).trans HDD.out.2.2.2))); have H15 := Lib.hid (HI.out.trans (hbb.mono HI.out.size)); clear hb15 hbb))
                  all_goals
                    go_wp2_with fail
                    go_roundw
                    case measure => simp [intOf] <;> omega
                    case rel => exact ⟨i + 1, by go_num, hi1, H15⟩
                · have hiE : M = i := by omega
                  subst hiE
                  clear hiM hi
                  have kzz := (HI.out.block z12 (Array.getElem?_eq_some_iff.1 HZ13.out).1).trans HZ13.out
                  obtain ⟨y0, y1, y2, y3⟩ := sv4 kzz
                  have hb1r : Below w12.heap.size w12 wr := H13.out.2.trans (HI.out.mono H13.out.2.size)
                  have hopsr := H12.out.2.2.2.below hb1r
                  clear kzz
                  by_cases ha0 : at_ = 0
                  · subst ha0
                    go_wp2_with fail
                    go_ret
                    exact ⟨rfl, hopsr.bel⟩
                  · have ha1 : ((at_ : Int) == 0) = false := beq_eq_false_iff_ne.2 (by omega)
                    obtain ⟨bb, off, rfl⟩ := rdo_form HO.out.1 (by have := HO.out.2.2.2.2; omega)
                    have hsl := slice_ops (b := bb) (off := off) (n := m) (c := cap) (k := at_) (by omega) hcap
                    have k8r := (hb1r.block z8 (by have := H12.out.1.size; have := (Array.getElem?_eq_some_iff.1 H12.out.2.2.1).1; omega)).trans ((H12.out.1.block z8 (Array.getElem?_eq_some_iff.1 H12.out.2.2.1).1).trans H12.out.2.2.1)
                    obtain ⟨v0, v1, v2, v3, v4⟩ := bq k8r
                    have f1 : wr.frozen? ⟨z8, 1, none⟩ = false := by simp [World.frozen?, k8r]
                    have hz8l := (Array.getElem?_eq_some_iff.1 k8r).1
                    have k8s : (wr.setCell ⟨z8, 1, none⟩ (.slice (some ⟨bb, off, none⟩) at_ cap)).heap[z8]? = some (.cells #[.int .u8 1, .slice (some ⟨bb, off, none⟩) at_ cap, .int .u32 0, .int .i64 0, .int .i64 0] 33 (0, 0)) := (set_block (i := 1) k8r).trans rfl
                    have hopst := hopsr.turn (turned_set wr z8 1 (.slice (some ⟨bb, off, none⟩) at_ cap)) (fun k hk => by
                      rw [hk]
                      exact ⟨Nat.le_trans HG.out.2.bel.size hz8a.out.1, .inl hz8a.out⟩)
                    have hlt : (os.take at_).length = at_ := by rw [List.length_take]; have := HO.out.2.2.2.2; omega
                    have HT2 := Lib.hid (hopst.tx HG.out.1 HS.out.2.2 (by omega) (r := rTx (os.take at_)) (cap := cap) ((HO.out.1.on (K := fun _ => False) (below_any hopst.bel) (fun _ _ h => h)).take at_) (fun e => by cases e) (by show (os.take at_).length * 48 ≤ _; rw [hlt]; omega) (fun o ho => HO.out.2.2.1 o (List.mem_of_mem_take ho)) (by show In32 0; unfold In32 InQ; decide))
                    have ean2 := ans_tx (G := G) (chk_take HCk.out (show 0 < at_ by omega) (by have := HO.out.2.2.2.2; omega))
                    rw [HBt.out] at ean2
                    unfold DoneR Rq.val rTx at HT2
                    unfold rTx at ean2
                    simp only at HT2 ean2
                    rw [ean2, hlt] at HT2
                    clear ean2 hopsr hopst hlt hb1r k8r
                    go_wp2_with fail
                    refine HT2.out.mono ?_
                    rintro e w15 ⟨vo3, cv3, lo4, cl4, rfl, hbe, -⟩
                    have hfd := field_E 0 0 (.slice vo3 (valG G (os.take at_)).length cv3) (.slice lo4 0 cl4)
                    go_wp2_with fail
                    go_ret
                    exact ⟨rfl, hbe⟩
      · have hC1 : (C != 0) = true := by rw [bne_iff_ne]; exact hC0
        clear hC0
        go_wp2_with fail
        go_ret
        exact ⟨rfl, HG.out.2.bel.trans (H9.out.1.mono HG.out.2.bel.size)⟩
end Go.Proofs.YtafenkepigmcaaaGreatDoor.Gr
