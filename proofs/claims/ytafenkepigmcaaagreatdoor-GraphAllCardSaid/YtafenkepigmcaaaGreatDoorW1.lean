/- graph: GraphPairs walked. -/
import Derived.Test.YtafenkepigmcaaaGreatDoorNL
namespace Go.Proofs.YtafenkepigmcaaaGreatDoor.Gr
open Go Go.RowKit YtafenkepigmcaaaGreatDoor.So
set_option maxRecDepth 100000 in
theorem field_there (c0 c2 c3 : Value) (b : Bool) (w : World) : (Instr.field 51 (.agg #[c0, .bool b, c2, c3]) 1).run Tryz.prog w = .ok (.bool b) w := by kernel_rfl
def SaysYes (w : World) (e : Ending) (w' : World) : Prop := e = .returned (.bool true) ∧ Below w.heap.size w w'
set_option maxRecDepth 100000 in
set_option maxHeartbeats 4000000 in
theorem pairs_any (rs : List Rq) (so : Option Addr) (sc : Nat) (w : World) (he : Flt.ErrT w) (hS : RdS w so rs) (hl : rs.length ≤ maxLen) : Calls Tryz.prog 4 #[.slice so rs.length sc] w (SaysYes w) := by
  obtain ⟨N, hN⟩ : ∃ N, rs.length = N := ⟨_, rfl⟩
  rw [hN] at hl ⊢
  have HS := Lib.hid (And.intro hS (And.intro hN he))
  have hl' : (N : Int) ≤ 9223372036854775807 := by unfold maxLen at hl; omega
  clear hS hN he hl
  go_enter Tryz.func4, Tryz.ntmps4
  go_wp2_with fail
  refine (awake_any w HS.out.2.2).mono ?_
  rintro e w1 ⟨rfl, hb1⟩
  have H1 := Lib.hid hb1
  clear hb1
  go_wp2_with fail
  refine (new_any w1).mono ?_
  rintro e w2 ⟨rfl, hgp, hb2⟩
  obtain ⟨g, hg⟩ : ∃ g, w1.heap.size + 2 = g := ⟨_, rfl⟩
  rw [hg] at hgp ⊢
  have HA := Lib.hid (LawAt.start hgp (fun k hk => by have := H1.out.size; omega) (H1.out.trans (hb2.mono H1.out.size)))
  clear hgp hb2 hg
  go_wp2_with fail
  go_loopw [18] (fun u wr => ∃ i : Nat, u = .int .i64 i ∧ i ≤ N ∧ Hid (LawAt w g i wr)) (fun u _ => N + 1 - (intOf u).toNat)
  case atStart => exact ⟨0, rfl, Nat.zero_le _, HA⟩
  case round =>
    obtain ⟨i, rfl, hi, HI⟩ := hrel
    by_cases hiN : i < N
    · obtain ⟨⟨kd, os, V, K, To⟩, ho⟩ : ∃ r, rs[i]? = some r := ⟨_, List.getElem?_eq_getElem (by have := HS.out.2.1; omega)⟩
      obtain ⟨b, off, ao, cap, rfl, hbl, q0, q1, q2, q3, q4, q5, q7, q8, q9, q10⟩ := (HS.out.1.below HI.out.bel) i _ ho
      simp only at q0 q1 q2 q3 q4 q5 q8 q9 q10
      obtain ⟨nO, hnO⟩ : ∃ nO, os.length = nO := ⟨_, rfl⟩
      rw [hnO] at q1
      have hi1 : i + 1 ≤ N := hiN
      have hb3 := (Below.refl wr.heap.size wr).alloc (Nat.le_refl _) (.cells #[.int .u8 kd, .slice ao nO cap, .int .u32 V, .int .i64 K, .int .i64 To] 33)
      have HQ := Lib.hid (And.intro hb3 (And.intro (q5.on (K := fun _ => False) (below_any hb3) (fun _ _ h => h)) (And.intro q7 (And.intro q8 (And.intro q9 (And.intro q10 hnO))))))
      clear ho hbl q5 q7 q8 q9 q10 hb3 hnO
      by_cases h80 : i < 80
      · have HC := Lib.hid (LawAt.ask (r := ⟨kd, os, V, K, To⟩) (cap := cap) (HI.out.below HQ.out.1) h80 HS.out.2.2 HQ.out.2.1 HQ.out.2.2.1 HQ.out.2.2.2.1 HQ.out.2.2.2.2.1 HQ.out.2.2.2.2.2.1)
        unfold Rq.val at HC
        simp only at HC
        rw [HQ.out.2.2.2.2.2.2] at HC
        go_wp2_with fail
        refine HC.out.mono ?_
        rintro e w3 ⟨vr, rfl, ha⟩
        have H3 := Lib.hid ha
        clear ha HC HQ
        go_wp2_with fail
        go_roundw
        case rel => exact ⟨i + 1, by go_num, hi1, H3⟩
        case measure => simp [intOf] <;> omega
      · go_wp2_with fail
        go_roundw
        case rel => exact ⟨i + 1, by go_num, hi1, Lib.hid ((HI.out.below HQ.out.1).skip)⟩
        case measure => simp [intOf] <;> omega
    · have hiE : N = i := by omega
      subst hiE
      clear hiN hi
      obtain ⟨F, n, G, hgp, hok, hn40, hn, hF, hbel⟩ := HI.out
      obtain ⟨ks, hks⟩ : ∃ ks, keysE G = ks := ⟨_, rfl⟩
      have HG := Lib.hid (And.intro hgp (And.intro hok (And.intro (show n ≤ 1000000000000 by omega) (And.intro hF (And.intro hbel hks)))))
      have HL := Lib.hid (list_any g n F G wr hgp (by omega))
      have hG40 : G.length = ks.length := by rw [← hks, keysE_len]
      obtain ⟨M, hM⟩ : ∃ M, G.length = M := ⟨_, rfl⟩
      have hMs : (M : Int) ≤ 281474976710656 := by
        obtain ⟨mp, me, bp, be, hh⟩ := hgp
        have := hh.props.size
        rw [mapE_len] at this
        omega
      rw [hM] at HL hG40
      rw [hks] at HL
      have HM := Lib.hid hG40
      clear hgp hok hn40 hn hF hbel hks hM hG40 HI
      go_wp2_with fail
      refine HL.out.mono ?_
      rintro e w3 ⟨ao, cap, rfl, hrow, hb3⟩
      have H3 := Lib.hid (And.intro (HG.out.1.below hb3) (And.intro HG.out.2.1 (And.intro HG.out.2.2.1 (And.intro (HG.out.2.2.2.2.1.trans (hb3.mono HG.out.2.2.2.2.1.size)) (And.intro HG.out.2.2.2.2.2 (And.intro HM.out (row_base hrow (Nat.zero_le _))))))))
      clear hrow hb3 HL HG HM
      go_wp2_with fail
      go_loopw [32] (fun u wr => ∃ i : Nat, u = .int .i64 i ∧ i ≤ M ∧ Hid (Below w3.heap.size w3 wr)) (fun u _ => M + 1 - (intOf u).toNat)
      case atStart => exact ⟨0, rfl, Nat.zero_le _, Lib.hid (.refl _ _)⟩
      case round =>
        obtain ⟨i, rfl, hi, HI⟩ := hrel
        by_cases hiM : i < M
        · obtain ⟨v, hv⟩ : ∃ v, ks[i]? = some v := ⟨_, List.getElem?_eq_getElem (by have := H3.out.2.2.2.2.2.1; omega)⟩
          have hvs : (getE G v).isSome = true := by
            rw [← mem_keysE H3.out.2.1.rise, H3.out.2.2.2.2.1]
            exact List.mem_of_getElem? hv
          obtain ⟨⟨PP, L⟩, hx⟩ := Option.isSome_iff_exists.1 hvs
          have hcell := row_turned H3.out.2.2.2.2.2.2 (below_any (G := fun _ => False) HI.out) (fun _ _ h => h)
          obtain ⟨gb, rfl, -, -, hc0⟩ := row_cell hcell (k := i) (u := .int .u32 v) (by simp [KA.u32s, hv])
          have HV := Lib.hid (vertex_there g n F G v PP L wr (H3.out.1.below HI.out) H3.out.2.2.1 (fun e he => (H3.out.2.1.sizes e he).1) (H3.out.2.1.in32 hvs) hx)
          have hi1 : i + 1 ≤ M := hiM
          have hLr : RiseE L := by have := H3.out.2.1.rh v; rwa [hG_some hx] at this
          have hL16 : L.length ≤ 16 := by have := H3.out.2.1.few v; rwa [hG_some hx] at this
          have HX := Lib.hid (And.intro hx (And.intro hLr hvs))
          obtain ⟨nL, hnL⟩ : ∃ nL, L.length = nL := ⟨_, rfl⟩
          obtain ⟨nP, hnP⟩ : ∃ nP, PP.length = nP := ⟨_, rfl⟩
          unfold ThereV at HV
          rw [hnL, hnP] at HV
          rw [hnL] at hL16
          have hL16' : (nL : Int) ≤ 16 := by omega
          have HN := Lib.hid hnL
          clear hv hvs hx hcell hLr hL16 hnL hnP
          go_wp2_with fail
          refine HV.out.mono ?_
          rintro e w4 ⟨po, pc, ho, hc, rfl, -, hrE, hb4⟩
          have hb5 := (Below.refl w4.heap.size w4).alloc (Nat.le_refl _) (.cells #[.int .u32 v, .bool true, .slice po nP pc, .slice ho nL hc] 51)
          have kx := heap_alloc_new w4 (.cells #[.int .u32 v, .bool true, .slice po nP pc, .slice ho nL hc] 51)
          obtain ⟨x0, hx0⟩ : ∃ x0, w4.heap.size = x0 := ⟨_, rfl⟩
          obtain ⟨w5, hw5⟩ : ∃ w5, w4.alloc (.cells #[.int .u32 v, .bool true, .slice po nP pc, .slice ho nL hc] 51) = w5 := ⟨_, rfl⟩
          rw [hw5] at hb5 kx
          rw [hx0] at kx
          have H5 := Lib.hid (And.intro (hrE.below hb5) (HI.out.trans ((hb4.trans (hb5.mono hb4.size)).mono HI.out.size)))
          have hc1 : w5.cell? ⟨x0, 1, none⟩ = some (.bool true) ∧ w5.cell? ⟨x0, 3, none⟩ = some (.slice ho nL hc) := by simp [World.cell?, kx]
          obtain ⟨hc1, hc3⟩ := hc1
          clear hrE hb4 hb5 kx HV HI
          go_wp2_with fail
          go_loopw [51] (fun u wr => ∃ j : Nat, u = .int .i64 j ∧ j ≤ nL ∧ Hid (Below w5.heap.size w5 wr)) (fun u _ => nL + 1 - (intOf u).toNat)
          case atStart => exact ⟨0, rfl, Nat.zero_le _, Lib.hid (.refl _ _)⟩
          case round =>
            clear hc0 hc1 hc3
            obtain ⟨j, rfl, hj, HJ⟩ := hrel
            by_cases hjL : j < nL
            · obtain ⟨⟨o, ⟨k, m, s⟩⟩, he⟩ : ∃ e, L[j]? = some e := ⟨_, List.getElem?_eq_getElem (by have := HN.out; omega)⟩
              have hLo : getE L o = some ⟨k, m, s⟩ := get_of_mem HX.out.2.1 (List.mem_of_getElem? he)
              have hov : getE (hG G o) v = some ⟨k, m, s⟩ := by rw [← H3.out.2.1.sym v o, hG_some HX.out.1]; exact hLo
              have hos : (getE G o).isSome = true := hG_there (b := v) (by rw [hov]; rfl)
              have hne : (o == v) = false := by
                have h1 : o ≠ v := fun e => by rw [e] at hov; rw [H3.out.2.1.self v] at hov; cases hov
                simpa using h1
              obtain ⟨⟨P2, L2⟩, hx2⟩ := Option.isSome_iff_exists.1 hos
              have hL2 : getE L2 v = some ⟨k, m, s⟩ := by rwa [hG_some hx2] at hov
              have hr2 : RiseE L2 := by have := H3.out.2.1.rh o; rwa [hG_some hx2] at this
              have hl2 : L2.length ≤ 16 := by have := H3.out.2.1.few o; rwa [hG_some hx2] at this
              obtain ⟨bb, off, rfl, hbl, q0, q1, q2, q3⟩ := (H5.out.1.below HJ.out) j _ he
              simp only at q0 q1 q2 q3
              have hj1 : j + 1 ≤ nL := hjL
              have hb6 := (Below.refl wr.heap.size wr).alloc (Nat.le_refl _) (.cells #[.int .u32 o, .int .u8 k, .int .i64 m, .string s] 58)
              have ky := heap_alloc_new wr (.cells #[.int .u32 o, .int .u8 k, .int .i64 m, .string s] 58)
              obtain ⟨y0, hy0⟩ : ∃ y0, wr.heap.size = y0 := ⟨_, rfl⟩
              obtain ⟨w6, hw6⟩ : ∃ w6, wr.alloc (.cells #[.int .u32 o, .int .u8 k, .int .i64 m, .string s] 58) = w6 := ⟨_, rfl⟩
              rw [hw6] at hb6 ky
              rw [hy0] at ky
              have HB6 := Lib.hid (HJ.out.trans (hb6.mono HJ.out.size))
              have hb36 := H5.out.2.trans (HB6.out.mono H5.out.2.size)
              have HW := Lib.hid (fun (wq : World) (hb : Below w6.heap.size w6 wq) => vertex_there g n F G o P2 L2 wq (H3.out.1.below (hb36.trans (hb.mono hb36.size))) H3.out.2.2.1 (fun e he => (H3.out.2.1.sizes e he).1) (H3.out.2.1.in32 hos) hx2)
              have HV := Lib.hid (HW.out w6 (.refl _ _))
              have HH := Lib.hid (fun (wq : World) (po ho : Option Addr) (np cp cl : Nat) (hr : RdE .u32 wq ho L2) => (half_any o v true po ho np cp cl L2 wq hr hr2 (by omega)).mono (R' := fun e w' => e = .returned (.tuple #[.agg #[.int .u8 k, .int .i64 m, .string s], .bool true]) ∧ Below wq.heap.size wq w') (fun e w' h => ⟨by rw [h.1, hL2]; rfl, h.2⟩))
              have HKy := Lib.hid ky
              obtain ⟨y1, y2, y3, y4⟩ := be4 ky
              have hneq := neq_self k m s
              unfold ThereV at HV HW
              obtain ⟨n2, hn2⟩ : ∃ n2, L2.length = n2 := ⟨_, rfl⟩
              obtain ⟨p2, hp2⟩ : ∃ p2, P2.length = p2 := ⟨_, rfl⟩
              rw [hn2, hp2] at HV
              rw [hn2, hp2] at HW
              rw [hn2] at HH
              clear he hLo hov hos hx2 hL2 hr2 hl2 hbl hb6 ky hb36 hn2 hp2
              go_wp2_with fail
              refine HV.out.mono ?_
              rintro e w7 ⟨po7, pc7, ho7, hc7, rfl, -, hrE7, hb7⟩
              have k7 := (hb7.block y0 (Array.getElem?_eq_some_iff.1 HKy.out).1).trans HKy.out
              have H7 := Lib.hid (And.intro hb7 k7)
              have HC := Lib.hid (HH.out w7 po7 ho7 p2 pc7 hc7 hrE7)
              clear hrE7 hb7 HV y1 y2 y3 y4 q0 q1 q2 q3 k7
              go_wp2_with fail
              refine HC.out.mono ?_
              rintro e w8 ⟨rfl, hb8⟩
              have k8 := (hb8.block y0 (Array.getElem?_eq_some_iff.1 H7.out.2).1).trans H7.out.2
              have hb68 : Below w6.heap.size w6 w8 := H7.out.1.trans (hb8.mono H7.out.1.size)
              have kz := heap_alloc_new w8 (.cells #[.int .u8 k, .int .i64 m, .string s] 47)
              have k9 := (heap_alloc_old w8 (.cells #[.int .u8 k, .int .i64 m, .string s] 47) (Array.getElem?_eq_some_iff.1 k8).1).trans k8
              have hb69 := hb68.alloc hb68.size (.cells #[.int .u8 k, .int .i64 m, .string s] 47)
              obtain ⟨z0, hz0⟩ : ∃ z0, w8.heap.size = z0 := ⟨_, rfl⟩
              obtain ⟨w9, hw9⟩ : ∃ w9, w8.alloc (.cells #[.int .u8 k, .int .i64 m, .string s] 47) = w9 := ⟨_, rfl⟩
              rw [hw9] at kz k9 hb69
              rw [hz0] at kz
              obtain ⟨y1, y2, y3, y4⟩ := be4 k9
              have H9 := Lib.hid (And.intro kz (And.intro k9 hb69))
              have HV := Lib.hid (HW.out w9 hb69)
              clear k8 hb68 kz k9 hb69 hb8 HC H7
              go_wp2_with fail
              refine HV.out.mono ?_
              rintro e wt ⟨pot, pct, hot, hct, rfl, -, -, hbt⟩
              have kt := (hbt.block y0 (Array.getElem?_eq_some_iff.1 H9.out.2.1).1).trans H9.out.2.1
              have kzt := (hbt.block z0 (Array.getElem?_eq_some_iff.1 H9.out.1).1).trans H9.out.1
              have HBt := Lib.hid (HB6.out.trans ((H9.out.2.2.trans (hbt.mono H9.out.2.2.size)).mono HB6.out.size))
              clear y1 y2 y3 y4
              obtain ⟨y1, y2, y3, y4⟩ := be4 kt
              have zc : wt.cell? ⟨z0, 0, none⟩ = some (.int .u8 k) ∧ wt.cell? ⟨z0, 1, none⟩ = some (.int .i64 m) ∧ wt.cell? ⟨z0, 2, none⟩ = some (.string s) := by simp [World.cell?, kzt]
              obtain ⟨z1, z2, z3⟩ := zc
              clear kt kzt hbt HV H9
              have hfd := field_there (.int .u32 o) (.slice pot p2 pct) (.slice hot n2 hct) true
              go_wp2_with fail
              go_roundw
              case rel => exact ⟨j + 1, by go_num, hj1, HBt⟩
              case measure => simp [intOf] <;> omega
            · have hjE : nL = j := by omega
              subst hjE
              clear hjL hj
              go_wp2_with fail
              go_roundw
              case rel => exact ⟨i + 1, by go_num, hi1, Lib.hid (H5.out.2.trans (HJ.out.mono H5.out.2.size))⟩
              case measure => simp [intOf] <;> omega
        · have hiE : M = i := by omega
          subst hiE
          clear hiM hi
          go_wp2_with fail
          go_ret
          exact ⟨rfl, H3.out.2.2.2.1.trans (HI.out.mono H3.out.2.2.2.1.size)⟩
end Go.Proofs.YtafenkepigmcaaaGreatDoor.Gr
