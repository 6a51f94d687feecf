/- index: every script of keys, walked. -/
import Derived.Test.YthjcohaldjfniaaU2
import Derived.Test.YthjcohaldjfniaaY1
import Derived.Deep.RegionHeld
namespace Go.Proofs.Ythjcohaldjfniaa.Ix
open Go Go.RowKit
open Pq (Pg pv fq)
open It (fl)
/-- Deeds that stand from an address on. -/
def Ro (w : World) (ao : Option Addr) (l : List (Int × Int × Int)) : Prop :=
  ∀ i t, l[i]? = some t → ∃ b off, ao = some ⟨b, off, none⟩ ∧ b < w.heap.size ∧ w.cell? ⟨b, off + i * 3, none⟩ = some (.int .u8 t.1) ∧ w.cell? ⟨b, off + i * 3 + 1, none⟩ = some (.int .u64 t.2.1) ∧ w.cell? ⟨b, off + i * 3 + 2, none⟩ = some (.int .u64 t.2.2)
theorem Ro.on {w w' : World} {ao : Option Addr} {l : List (Int × Int × Int)} (h : Ro w ao l) (hb : Below w.heap.size w w') : Ro w' ao l := by
  intro i t ht
  obtain ⟨b, off, h1, h2, h3, h4, h5⟩ := h i t ht
  exact ⟨b, off, h1, Nat.lt_of_lt_of_le h2 hb.size, (hb.cell (p := ⟨b, off + i * 3, none⟩) h2).trans h3, (hb.cell (p := ⟨b, off + i * 3 + 1, none⟩) h2).trans h4, (hb.cell (p := ⟨b, off + i * 3 + 2, none⟩) h2).trans h5⟩
def PlI (w : World) (x y i : Nat) (wr : World) : Prop := ∃ L, Tw w x L y L wr ∧ L.length ≤ i ∧ ∀ e ∈ L, e.1 ≤ 18446744073709551615
theorem PlI.ahead {w wr : World} {x y i : Nat} (h : PlI w x y i wr) : Below w.heap.size w wr := by
  obtain ⟨_, h, _⟩ := h; exact h.ahead
/-- The deed at hand, in its block. -/
def Dz (z : Nat) (d : Int × Int × Int) (w' : World) : Prop := w'.heap[z]? = some (.cells #[.int .u8 d.1, .int .u64 d.2.1, .int .u64 d.2.2] 32 (0, 0)) ∧ z < w'.heap.size
theorem Dz.cells {z : Nat} {d : Int × Int × Int} {w' : World} (h : Dz z d w') : w'.cell? ⟨z, 0, none⟩ = some (.int .u8 d.1) ∧ w'.cell? ⟨z, 1, none⟩ = some (.int .u64 d.2.1) ∧ w'.cell? ⟨z, 2, none⟩ = some (.int .u64 d.2.2) := by
  simp [World.cell?, h.1]
/-- Behind the deed. -/
def PlD (w : World) (x y i z : Nat) (d : Int × Int × Int) (wr : World) : Prop := ∃ L, TwR w x L y L (Dz z d) wr ∧ L.length ≤ i ∧ ∀ e ∈ L, e.1 ≤ 18446744073709551615
theorem key_put {L : IL} {k u : Int} (h : ∀ e ∈ L, e.1 ≤ 18446744073709551615) (hk : k ≤ 18446744073709551615) : ∀ e ∈ putL L k u, e.1 ≤ 18446744073709551615 := fun e he => (mem_putL he).elim (h e) (fun e1 => by rw [e1]; exact hk)
theorem key_del {L : IL} {k : Int} (h : ∀ e ∈ L, e.1 ≤ 18446744073709551615) : ∀ e ∈ delL L k, e.1 ≤ 18446744073709551615 := fun e he => h e (List.mem_filter.1 he).1
def TrueW (_ : World) : Prop := True
set_option maxRecDepth 100000 in
set_option maxHeartbeats 16000000 in
theorem plays_law (ao : Option Addr) (ca : Nat) (l : List (Int × Int × Int)) (fr tu : Int) (w : World) (hA : Ro w ao l) (kA : ∀ d ∈ l, d.2.1 ≤ 18446744073709551615) (mA : l.length ≤ ca) (_mB : ca ≤ maxLen) :
    Calls Try.prog 3 #[.slice ao l.length ca, .int .u64 fr, .int .u64 tu] w fun e w' => e = .returned (.bool true) ∧ Below w.heap.size w w' := by
  have HA := Lib.hid (And.intro hA kA)
  obtain ⟨N, hN⟩ : ∃ N, l.length = N := ⟨_, rfl⟩
  rw [hN] at mA ⊢
  have HN := Lib.hid hN
  clear hA kA hN
  go_enter Try.func3, Try.ntmps3
  go_wp2_with fail
  refine (awake_any w).mono ?_
  rintro e wa ⟨rfl, hba⟩
  have HB := Lib.hid hba
  clear hba
  go_wp2_with fail
  refine (st_new wa).mono ?_
  rintro e w1 ⟨rfl, h1⟩
  have H1 := Lib.hid (tw_new h1)
  clear h1
  obtain ⟨x, ex⟩ : ∃ x, x = wa.heap.size := ⟨_, rfl⟩
  obtain ⟨y, ey⟩ : ∃ y, y = w1.heap.size := ⟨_, rfl⟩
  have H2 := Lib.hid (show PlI wa x y 0 (w1.alloc (.cells #[.slice none 0 0] 30)) from by rw [ex, ey]; exact ⟨[], H1.out, Nat.le_refl _, by simp⟩)
  go_wp2_with fail
  rw [← ex, ← ey]
  clear ex ey
  go_loopw [30] (fun u30 wr => ∃ i : Nat, i ≤ N ∧ i ≤ 300 ∧ u30 = .int .i64 i ∧ Hid (PlI wa x y i wr)) (fun u30 _ => N - (intOf u30).toNat)
  case atStart => exact ⟨0, Nat.zero_le _, Nat.zero_le _, rfl, H2⟩
  case round =>
    obtain ⟨i, hi, hi3, rfl, I⟩ := hrel
    by_cases hlt : i < N
    · have hd := getD_at l i (0, 0, 0) (by have := HN.out; omega)
      obtain ⟨d, ed⟩ : ∃ d, d = l.getD i (0, 0, 0) := ⟨_, rfl⟩
      rw [← ed] at hd
      have hdk := HA.out.2 d (List.mem_of_getElem? hd)
      obtain ⟨b, off, rfl, _, c0, c1, c2⟩ := (HA.out.1.on (HB.out.trans (I.out.ahead.mono HB.out.size))) i d hd
      have ii : (i : Int) < (N : Int) := by omega
      obtain ⟨L, hL, hl, hk⟩ := I.out
      clear hd ed
      by_cases h300 : 300 ≤ i
      · obtain rfl : i = 300 := by omega
        have HT := Lib.hid (hL.below ((Below.refl wr.heap.size wr).alloc (Nat.le_refl _) (.cells #[.int .u8 d.1, .int .u64 d.2.1, .int .u64 d.2.2] 32)))
        clear hL hk I
        go_wp2_with fail
        obtain ⟨wb, eb⟩ : ∃ wb, wb = (wr.alloc (.cells #[.int .u8 d.1, .int .u64 d.2.1, .int .u64 d.2.2] 32)) := ⟨_, rfl⟩
        rw [← eb] at HT ⊢
        clear eb
        have hl4 : L.length ≤ 4096 := by omega
        refine (tw_range HT.out fr tu hl4).mono ?_
        rintro e w5 ⟨⟨al, cl, rfl, hl5⟩, hb5⟩
        have HT5 := Lib.hid (HT.out.below hb5)
        have HL5 := Lib.hid (And.intro hl5 hb5)
        clear hl5 hb5
        go_wp2_with fail
        refine (tw_pages HT5.out hl4).mono ?_
        rintro e w6 ⟨⟨X, hf, eX, ap, cp, Y, rfl, hp, hY, hP⟩, h6, hb6⟩
        have HP6 := Lib.hid (And.intro hf (And.intro eX (And.intro hp (And.intro hY (And.intro hP (And.intro h6 hb6))))))
        have HW := Lib.hid (pw_mk HT.out HL5.out.2 hb6 HL5.out.1 hf hY hp hP)
        have hXl : X.length ≤ 4096 := by have := cont_len hf; rw [eX] at this; omega
        clear hf eX hp hY hP h6 hb6
        go_wp2_with fail
        refine (tw_rrange HP6.out.2.2.2.2.2.1 fr tu hl4).mono ?_
        rintro e w7 ⟨am, cm7, rfl, hcm, hm, hb7⟩
        have hMl := range_len L fr tu
        have HS := Lib.hid (same_true (ca := cl) (cb := cm7) (((rl_own HL5.out.1 rfl).on HP6.out.2.2.2.2.2.2).on hb7) hm (by omega))
        obtain ⟨n, en⟩ : ∃ n, (rangeL L fr tu).length = n := ⟨_, rfl⟩
        rw [en] at HS HW hcm hMl ⊢
        have HB7 := Lib.hid hb7
        clear hb7 hm en
        go_wp2_with fail
        refine HS.out.mono ?_
        rintro e w8 ⟨rfl, hb8⟩
        have HB8 := Lib.hid (HB7.out.trans (hb8.mono HB7.out.size))
        clear hb8
        have hT8 := HP6.out.2.2.2.2.2.1.below HB8.out
        obtain ⟨bo, cb, r1, r2, r3⟩ := hT8.row
        have hpc := paged_true (cb := cb) HP6.out.1 HP6.out.2.2.2.1 (own_on HP6.out.2.2.1 (fun g e => HB8.out.block g (World.ownsRow.lt HP6.out.2.2.1 g e).2)) (fun t ht => (HP6.out.2.2.2.2.1 t ht).1.on (HB8.out.block _ (HP6.out.2.2.2.2.1 t ht).1.lt)) (by rw [HP6.out.2.1]; exact r2) (by rw [HP6.out.2.1]; exact hl4)
        rw [HP6.out.2.1] at hpc
        have HPC := Lib.hid hpc
        clear hpc hT8 r2
        go_wp2_with fail
        refine HPC.out.mono ?_
        rintro e w9 ⟨rfl, hb9⟩
        have HW9 := Lib.hid ((HW.out.below HB8.out).below hb9)
        have HYl := Lib.hid (fit_map HP6.out.1 HP6.out.2.2.2.1)
        obtain ⟨NP, eNP⟩ : ∃ NP, X.length = NP := ⟨_, rfl⟩
        rw [eNP] at HYl hXl ⊢
        clear hb9 r1 r3 eNP
        go_wp2_with fail
        go_loopw [157] (fun u157 wr => ∃ i : Nat, i ≤ n ∧ u157 = .int .i64 i ∧ Hid (PW wa x y L wb.heap.size al n ap Y wr)) (fun u157 _ => n - (intOf u157).toNat)
        case atStart => exact ⟨0, Nat.zero_le _, rfl, HW9⟩
        case round =>
          obtain ⟨j, hj, rfl, J⟩ := hrel
          by_cases hjl : j < n
          · obtain ⟨gl, rfl, hgB, ho⟩ := J.out.li (by omega)
            obtain ⟨⟨v, c1⟩, f1⟩ := ho.cell hjl
            have ij : (j : Int) < (n : Int) := by omega
            have HO := Lib.hid (And.intro hgB ho)
            clear hgB ho
            go_wp2_with fail
            go_roundw
            case rel => exact ⟨j + 1, by omega, by go_num, Lib.hid (J.out.set HO.out.2 HO.out.1 j _)⟩
            case measure => simp [intOf]; omega
          · obtain rfl : j = n := by omega
            go_wp2_with fail
            go_loopw [171] (fun u171 wr => ∃ i : Nat, i ≤ NP ∧ u171 = .int .i64 i ∧ Hid (PW wa x y L wb.heap.size al j ap Y wr)) (fun u171 _ => NP - (intOf u171).toNat)
            case atStart => exact ⟨0, Nat.zero_le _, rfl, J⟩
            case round =>
              obtain ⟨m, hm, rfl, J2⟩ := hrel
              by_cases hml : m < NP
              · have ht := getD_at Y m default (by have := HYl.out.1; omega)
                obtain ⟨t, et⟩ : ∃ t, t = Y.getD m default := ⟨_, rfl⟩
                rw [← et] at ht
                obtain ⟨gp, rfl, c0⟩ := J2.out.rcell ht
                obtain ⟨hgB, h0, ho⟩ := J2.out.pg t (List.mem_of_getElem? ht)
                obtain ⟨⟨v, c1⟩, f1⟩ := ho.cell (j := 0) (by omega)
                have im : (m : Int) < (NP : Int) := by omega
                have i0 : (0 : Int) < (t.P.length : Int) := by omega
                have HO := Lib.hid (And.intro hgB ho)
                simp only [Nat.zero_mul, Nat.zero_add] at c1 f1
                unfold pv at c0
                clear hgB ho h0 et ht
                go_wp2_with fail
                go_roundw
                case rel => exact ⟨m + 1, by omega, by go_num, Lib.hid (J2.out.set HO.out.2 HO.out.1 0 _)⟩
                case measure => simp [intOf]; omega
              · obtain rfl : m = NP := by omega
                have HTl := Lib.hid J2.out.tw.tw
                obtain ⟨bo2, cb2, r1, r2, r3⟩ := HTl.out.row
                have HR2 := Lib.hid r2
                clear r2 J2
                generalize wr = wy at *
                go_upto_region 37 with fail
                have hbd : Below wy.heap.size wy wy.drew := (Below.refl _ _).drew
                have hB0 := Lib.hid (And.intro (HTl.out.below hbd) (HR2.out.on hbd))
                clear hbd
                go_region_held3 (fun w' => w'.cell? ⟨y, 0, none⟩ = some (.slice bo2 L.length cb2))
                  (first | exact r1 | exact k1 | exact k2)
                  (first
                    | (have hh := K1; clear hh; go_at_call 19; refine PC.out.mono ?_; rintro e wq ⟨rfl, hbq⟩; have k2 := (hbq.cell (p := ⟨y, 0, none⟩) (Nat.lt_of_lt_of_le r3 K1.out.2.size)).trans k1; have K2 := Lib.hid (K1.out.1.below hbq); clear hbq)
                    | (go_at_call 20; refine (tw_pages hB0.out.1 hl4).mono ?_; rintro e wp ⟨⟨X2, hf2, eX2, ht2⟩, hp5, hbp⟩; obtain ⟨aoP, caP, rfl, pc⟩ := PgsCall (cb := cb2) hf2 (by rw [eX2]; exact hl4) ht2 (Below.refl _ _) (by rw [eX2]; exact hB0.out.2.on hbp); rw [eX2] at pc; have k1 := (hbp.cell (p := ⟨y, 0, none⟩) r3).trans r1; have PC := Lib.hid pc; have K1 := Lib.hid (And.intro hp5 hbp); clear pc hp5 hbp ht2 hf2 eX2))
                go_wp2_with fail
                go_ret
                exact ⟨rfl, HB.out.trans (K2.out.ahead.mono HB.out.size)⟩
      · have i300 : ¬ (300 : Int) ≤ (i : Int) := by omega
        have HZ := Lib.hid (show TwR wa x L y L (Dz wr.heap.size d) (wr.alloc (.cells #[.int .u8 d.1, .int .u64 d.2.1, .int .u64 d.2.2] 32)) from TwR.mk_block hL _)
        obtain ⟨z, ez⟩ : ∃ z, z = wr.heap.size := ⟨_, rfl⟩
        have HK := Lib.hid hk
        clear hL hk I
        by_cases hk0 : d.1 = 0
        · have e0 : (d.1 == 0) = true := by simpa using hk0
          clear hk0
          obtain ⟨zc0, zc1, zc2⟩ := Dz.cells HZ.out.r
          have HD0 := Lib.hid (HZ.out.below (Below.refl _ _).drew)
          have hl9 : L.length < 4096 := by omega
          clear ez
          go_wp2_with fail
          go_region_held3 (fun w' => w'.cell? ⟨wr.heap.size, 1, none⟩ = some (.int .u64 d.2.1) ∧ w'.cell? ⟨wr.heap.size, 2, none⟩ = some (.int .u64 d.2.2))
            (first | exact ⟨zc1, zc2⟩ | exact k1 | exact k2)
            (first
              | (go_at_call 10; refine (twr_put_x HD0.out d.2.1 d.2.2 hl9).mono ?_; rintro e w5 ⟨rfl, h5⟩; have k1 := (Dz.cells h5.r).2; have K1 := Lib.hid h5; clear h5)
              | (go_at_call 11; refine (twr_put_y K1.out d.2.1 d.2.2 HD0.out.tw.up hl9).mono ?_; rintro e w6 ⟨rfl, h6⟩; have k2 := (Dz.cells h6.r).2; have K2 := Lib.hid h6; clear h6))
          obtain ⟨M, eM⟩ : ∃ M, M = putL L d.2.1 d.2.2 := ⟨_, rfl⟩
          have hM : M.length ≤ i + 1 := by rw [eM]; have := putL_len L d.2.1 d.2.2; omega
          have HMK := Lib.hid (show ∀ e ∈ M, e.1 ≤ 18446744073709551615 by rw [eM]; exact key_put HK.out hdk)
          have HP := Lib.hid (show TwR wa x M y M (Dz wr.heap.size d) w6 by rw [eM]; exact K2.out)
          clear k1 k2 K1 zc0 zc1 zc2 eM
          have hi301 : M.length ≤ 301 := by omega
          obtain ⟨zc0, zc1, zc2⟩ := Dz.cells HP.out.r
          have HM := Lib.hid hM
          clear hM
          go_wp2_with fail
          refine (twr_get HP.out d.2.1 (by omega)).mono ?_
          rintro e wc ⟨⟨u, ok, rfl, g1⟩, hp1⟩
          have HP1 := Lib.hid hp1
          have G1 := Lib.hid g1
          obtain ⟨yc0, yc1, yc2⟩ := Dz.cells hp1.r
          clear hp1 g1 zc0 zc1 zc2
          go_wp2_with fail
          refine (twr_rget HP1.out d.2.1 (by omega)).mono ?_
          rintro e _ ⟨⟨u', ok', rfl, g2⟩, rfl⟩
          obtain ⟨eu, eok⟩ := GetS.one HP1.out.tw.up G1.out g2
          subst eu eok
          clear g2
          go_wp2_with fail
          refine (twr_next HP1.out fr (by omega)).mono ?_
          rintro e we ⟨⟨t, okn, rfl, n1⟩, hp2, _⟩
          have N1 := Lib.hid n1
          have HP2 := Lib.hid (hp2.below ((Below.refl we.heap.size we).alloc (Nat.le_refl _) (.cells #[.int .u64 t.1, .int .u64 t.2] 42)))
          clear n1 hp2 yc0 yc1 yc2
          go_wp2_with fail
          refine (twr_rnext HP2.out fr (by omega) HMK.out).mono ?_
          rintro e wf ⟨⟨t', okn', rfl, n2⟩, hp3, hbf⟩
          obtain ⟨et, eokn⟩ := NextS.one N1.out n2
          subst et eokn
          have hq0 : wf.heap[we.heap.size]? = some (.cells #[.int .u64 t'.1, .int .u64 t'.2] 42 (0, 0)) := (hbf.block _ (by simp)).trans (heap_alloc_new we _)
          have hq1 := Array.getElem?_eq_some_iff.1 hq0
          have HP3 := Lib.hid (hp3.below ((Below.refl wf.heap.size wf).alloc (Nat.le_refl _) (.cells #[.int .u64 t'.1, .int .u64 t'.2] 45)))
          have v1 : (wf.alloc (.cells #[.int .u64 t'.1, .int .u64 t'.2] 45)).cell? ⟨we.heap.size, 0, none⟩ = some (.int .u64 t'.1) := by rw [World.cell?_alloc_lt wf _ ⟨we.heap.size, 0, none⟩ hq1.1]; simp [World.cell?, hq0]
          have v2 : (wf.alloc (.cells #[.int .u64 t'.1, .int .u64 t'.2] 45)).cell? ⟨we.heap.size, 1, none⟩ = some (.int .u64 t'.2) := by rw [World.cell?_alloc_lt wf _ ⟨we.heap.size, 1, none⟩ hq1.1]; simp [World.cell?, hq0]
          have v3 : (wf.alloc (.cells #[.int .u64 t'.1, .int .u64 t'.2] 45)).cell? ⟨wf.heap.size, 0, none⟩ = some (.int .u64 t'.1) := by rw [World.cell?_alloc_new]; rfl
          have v4 : (wf.alloc (.cells #[.int .u64 t'.1, .int .u64 t'.2] 45)).cell? ⟨wf.heap.size, 1, none⟩ = some (.int .u64 t'.2) := by rw [World.cell?_alloc_new]; rfl
          obtain ⟨bo, cb, r1, r2, r3⟩ := HP3.out.tw.row
          have hneq := run_neq45 t'.1 t'.2 t'.1 t'.2
          have hqq : (!(t'.1 == t'.1 && t'.2 == t'.2)) = false := by simp
          rw [hqq] at hneq
          have HST := Lib.hid HP3.out.tw.one
          have bb1 : (u' != u') = false := by simp
          have bb2 : (ok' != ok') = false := by simp
          have bb3 : (okn' != okn') = false := by simp
          have bb4 : ((M.length : Int) != (M.length : Int)) = false := by simp
          clear hp3 hbf hq0 hq1 hqq n2 r2
          go_wp2_with fail
          go_quiet ((go_at_call 18; (first | exact Calls.quiet_of_same ((st_len HST.out).mono fun _ _ h => ⟨h.1, h.2.symm⟩) | exact Calls.quiet_of_same ((st_len (HST.out.below (Below.refl _ _).drew)).mono fun _ _ h => ⟨h.1, h.2.symm⟩) | exact Calls.quiet_of_same ((st_len (HST.out.below (Below.drewN_refl _ _))).mono fun _ _ h => ⟨h.1, h.2.symm⟩))))
          have HP4 := Lib.hid (HP3.out.tw.below (Below.drewN_refl _ nq))
          have HP5 := Lib.hid (HP4.out.below (Below.refl _ _).drew)
          have hnx : Tw wa x M y M (World.drew _) := HP5.out
          obtain ⟨bo, cb, r1, r2, r3⟩ := Tw.row hnx
          have HR2 := Lib.hid r2
          have hM9 : M.length ≤ 4096 := by omega
          have i9 : (0 : Int) ≤ (i : Int) := by omega
          clear v1 v2 v3 v4 hneq bb1 bb2 bb3 bb4 r2 hnx
          go_wp2_with fail
          by_cases h8 : (i : Int) % 8 = 7
          · have hne : ((i : Int) % 8 == 7) = true := by simpa using h8
            have hne2 : ((i : Int).tmod 8 == 7) = true := by rw [Int.tmod_eq_emod_of_nonneg (by omega)]; exact hne
            clear h8
            refine wp_region_held_drew (S := (fun w' => w'.cell? ⟨y, 0, none⟩ = some (.slice bo M.length cb))) (by kernel_rfl) r1 (fun hHeld => ?_)
            refine wpAnyH_take (i := 0) (oi := { dst := some 119, op := Op.move (Operand.tmp 9), type := 3, pos := "law.go:78", after := #[], guard := none }) (v := ?_) rfl (by kernel_rfl) (by kernel_rfl) (by kernel_rfl) (fun _ _ _ h => h) (Or.inl ⟨by rfl, ?_⟩) (by assumption) ?_
            rotate_left
            focus (intro w' hSw; (try dsimp only at hSw); go_simp; try with_reducible rfl)
            try simp only [Act.put, List.setIfInBounds_toArray, List.set_cons_zero, List.set_cons_succ]
            refine wpAnyH_take (i := 1) (oi := { dst := some 120, op := Op.binOp BinOp.rem 3 (Operand.tmp 119) (Operand.const (Value.int IntKind.i64 8)) 3, type := 3, pos := "law.go:78", after := #[{ on := 0, ground := Ground.data }], guard := none }) (v := ?_) rfl (by kernel_rfl) (by kernel_rfl) (by kernel_rfl) (fun _ _ _ h => h) (Or.inl ⟨by rfl, ?_⟩) (by assumption) ?_
            rotate_left
            focus (intro w' hSw; (try dsimp only at hSw); go_simp; try with_reducible rfl)
            try simp only [Act.put, List.setIfInBounds_toArray, List.set_cons_zero, List.set_cons_succ]
            refine wpAnyH_take (i := 2) (oi := { dst := some 121, op := Op.binOp BinOp.eql 3 (Operand.tmp 120) (Operand.const (Value.int IntKind.i64 7)) 3, type := 4, pos := "law.go:78", after := #[{ on := 1, ground := Ground.data }], guard := none }) (v := ?_) rfl (by kernel_rfl) (by kernel_rfl) (by kernel_rfl) (fun _ _ _ h => h) (Or.inl ⟨by rfl, ?_⟩) (by assumption) ?_
            rotate_left
            focus (intro w' hSw; (try dsimp only at hSw); go_simp; try with_reducible rfl)
            try simp only [Act.put, List.setIfInBounds_toArray, List.set_cons_zero, List.set_cons_succ]
            refine wpAnyH_take (i := 3) (oi := { dst := some 122, op := Op.move (Operand.tmp 121), type := 4, pos := "law.go:78", after := #[{ on := 2, ground := Ground.data }], guard := none }) (v := ?_) rfl (by kernel_rfl) (by kernel_rfl) (by kernel_rfl) (fun _ _ _ h => h) (Or.inl ⟨by rfl, ?_⟩) (by assumption) ?_
            rotate_left
            focus (intro w' hSw; (try dsimp only at hSw); go_simp; try with_reducible rfl)
            try simp only [Act.put, List.setIfInBounds_toArray, List.set_cons_zero, List.set_cons_succ]
            refine wpAnyH_take (i := 4) (oi := { dst := some 123, op := Op.move (Operand.tmp 7), type := 25, pos := "law.go:78", after := #[{ on := 3, ground := Ground.guard }], guard := some (3, true) }) (v := ?_) rfl (by kernel_rfl) (by kernel_rfl) (by kernel_rfl) (fun _ _ _ h => h) (Or.inl ⟨by rfl, ?_⟩) (by assumption) ?_
            rotate_left
            focus (intro w' hSw; (try dsimp only at hSw); go_simp; try with_reducible rfl)
            try simp only [Act.put, List.setIfInBounds_toArray, List.set_cons_zero, List.set_cons_succ]
            refine wpAnyH_take (i := 6) (oi := { dst := some 125, op := Op.move (Operand.tmp 8), type := 27, pos := "law.go:78", after := #[{ on := 3, ground := Ground.guard }], guard := some (3, true) }) (v := ?_) rfl (by kernel_rfl) (by kernel_rfl) (by kernel_rfl) (fun _ _ _ h => h) (Or.inl ⟨by rfl, ?_⟩) (by assumption) ?_
            rotate_left
            focus (intro w' hSw; (try dsimp only at hSw); go_simp; try with_reducible rfl)
            try simp only [Act.put, List.setIfInBounds_toArray, List.set_cons_zero, List.set_cons_succ]
            refine wpAnyH_take (i := 7) (oi := { dst := some 126, op := Op.nilCheck (Operand.tmp 125), type := 0, pos := "law.go:78", after := #[{ on := 6, ground := Ground.data }, { on := 3, ground := Ground.guard }], guard := some (3, true) }) (v := ?_) rfl (by kernel_rfl) (by kernel_rfl) (by kernel_rfl) (fun _ _ _ h => h) (Or.inl ⟨by rfl, ?_⟩) (by assumption) ?_
            rotate_left
            focus (intro w' hSw; (try dsimp only at hSw); go_simp; try with_reducible rfl)
            try simp only [Act.put, List.setIfInBounds_toArray, List.set_cons_zero, List.set_cons_succ]
            refine wpAnyH_take (i := 8) (oi := { dst := some 127, op := Op.fieldAddr 30 (Operand.tmp 126) 0, type := 0, pos := "law.go:78", after := #[{ on := 7, ground := Ground.data }, { on := 3, ground := Ground.guard }], guard := some (3, true) }) (v := ?_) rfl (by kernel_rfl) (by kernel_rfl) (by kernel_rfl) (fun _ _ _ h => h) (Or.inl ⟨by rfl, ?_⟩) (by assumption) ?_
            rotate_left
            focus (intro w' hSw; (try dsimp only at hSw); go_simp; try with_reducible rfl)
            try simp only [Act.put, List.setIfInBounds_toArray, List.set_cons_zero, List.set_cons_succ]
            refine wpAnyH_take (i := 9) (oi := { dst := some 128, op := Op.load 28 (Operand.tmp 127), type := 28, pos := "law.go:78", after := #[{ on := 8, ground := Ground.data }, { on := 3, ground := Ground.guard }], guard := some (3, true) }) (v := ?_) rfl (by kernel_rfl) (by kernel_rfl) (by kernel_rfl) (fun _ _ _ h => h) (Or.inl ⟨by rfl, ?_⟩) (by assumption) ?_
            rotate_left
            focus (intro w' hSw; (try dsimp only at hSw); go_simp; try with_reducible rfl)
            try simp only [Act.put, List.setIfInBounds_toArray, List.set_cons_zero, List.set_cons_succ]
            refine wpAnyH_ready (rs := [5]) (by kernel_rfl) (by simp) ?_
            refine AllReadyH.cons (o := { dst := some 124, op := Op.call { callee := Callee.value (Operand.func 20), args := #[Operand.tmp 123], argTypes := #[25] }, type := 50, pos := "law.go:78", after := #[{ on := 4, ground := Ground.data }, { on := 3, ground := Ground.chain }, { on := 3, ground := Ground.guard }], guard := some (3, true) }) rfl (fun K hK => ?_) AllReadyH.nil
            go_simp
            go_at_call 20; refine (tw_pages HP5.out hM9).mono ?_; rintro e w7 ⟨⟨X, hf, eX, ht⟩, h7, hb7⟩; obtain ⟨aoP, caP, rfl, pc⟩ := PgsCall (cb := cb) hf (by rw [eX]; exact hM9) ht (Below.refl _ _) (by rw [eX]; exact HR2.out.on hb7); rw [eX] at pc; have k1 := (hb7.cell (p := ⟨y, 0, none⟩) r3).trans r1; have PC := Lib.hid pc; have K3 := Lib.hid (And.intro h7 hb7); clear pc h7 ht hf eX
            refine hK.out _ _ k1 (fun hHeld => ?_)
            clear hK K
            try simp only [Act.put, List.setIfInBounds_toArray, List.set_cons_zero, List.set_cons_succ]
            refine wpAnyH_ready (rs := [10]) (by kernel_rfl) (by simp) ?_
            refine AllReadyH.cons (o := { dst := some 129, op := Op.call { callee := Callee.value (Operand.func 19), args := #[Operand.tmp 124, Operand.tmp 128], argTypes := #[50, 28] }, type := 4, pos := "law.go:78", after := #[{ on := 5, ground := Ground.data }, { on := 9, ground := Ground.data }, { on := 5, ground := Ground.chain }, { on := 3, ground := Ground.guard }], guard := some (3, true) }) rfl (fun K hK => ?_) AllReadyH.nil
            go_simp
            go_at_call 19; refine PC.out.mono ?_; rintro e w8 ⟨rfl, hb8⟩; have k2 := (hb8.cell (p := ⟨y, 0, none⟩) (Nat.lt_of_lt_of_le r3 K3.out.2.size)).trans k1; have K4 := Lib.hid (K3.out.1.below hb8); clear hb8
            refine hK.out _ _ k2 (fun hHeld => ?_)
            clear hK K
            try simp only [Act.put, List.setIfInBounds_toArray, List.set_cons_zero, List.set_cons_succ]
            refine wpAnyH_take (i := 11) (oi := { dst := some 130, op := Op.unOp UnOp.not 4 (Operand.tmp 129), type := 4, pos := "law.go:78", after := #[{ on := 10, ground := Ground.data }, { on := 3, ground := Ground.guard }], guard := some (3, true) }) (v := ?_) rfl (by kernel_rfl) (by kernel_rfl) (by kernel_rfl) (fun _ _ _ h => h) (Or.inl ⟨by rfl, ?_⟩) (by assumption) ?_
            rotate_left
            focus (intro w' hSw; (try dsimp only at hSw); go_simp; try with_reducible rfl)
            try simp only [Act.put, List.setIfInBounds_toArray, List.set_cons_zero, List.set_cons_succ]
            refine wpAnyH_take (i := 12) (oi := { dst := some 131, op := Op.pick (Operand.tmp 122) (Operand.tmp 130) (Operand.const (Value.bool false)), type := 4, pos := "law.go:78", after := #[{ on := 3, ground := Ground.data }, { on := 11, ground := Ground.data }], guard := none }) (v := ?_) rfl (by kernel_rfl) (by kernel_rfl) (by kernel_rfl) (fun _ _ _ h => h) (Or.inl ⟨by rfl, ?_⟩) (by assumption) ?_
            rotate_left
            focus (intro w' hSw; (try dsimp only at hSw); go_simp; try with_reducible rfl)
            try simp only [Act.put, List.setIfInBounds_toArray, List.set_cons_zero, List.set_cons_succ]
            refine wpAnyH_done (by kernel_rfl) ?_ _
            go_wp2_with fail
            go_roundw
            case rel => exact ⟨i + 1, by omega, by omega, by go_num, Lib.hid ⟨M, K4.out, HM.out, HMK.out⟩⟩
            case measure => simp [intOf]; omega
          · have hne : ((i : Int) % 8 == 7) = false := by simpa using h8
            have hne2 : ((i : Int).tmod 8 == 7) = false := by rw [Int.tmod_eq_emod_of_nonneg (by omega)]; exact hne
            clear h8
            refine wp_region_held_drew (S := (fun _ => True)) (by kernel_rfl) trivial (fun hHeld => ?_)
            refine wpAnyH_take (i := 0) (oi := { dst := some 119, op := Op.move (Operand.tmp 9), type := 3, pos := "law.go:78", after := #[], guard := none }) (v := ?_) rfl (by kernel_rfl) (by kernel_rfl) (by kernel_rfl) (fun _ _ _ h => h) (Or.inl ⟨by rfl, ?_⟩) (by assumption) ?_
            rotate_left
            focus (intro w' hSw; (try dsimp only at hSw); go_simp; try with_reducible rfl)
            try simp only [Act.put, List.setIfInBounds_toArray, List.set_cons_zero, List.set_cons_succ]
            refine wpAnyH_take (i := 1) (oi := { dst := some 120, op := Op.binOp BinOp.rem 3 (Operand.tmp 119) (Operand.const (Value.int IntKind.i64 8)) 3, type := 3, pos := "law.go:78", after := #[{ on := 0, ground := Ground.data }], guard := none }) (v := ?_) rfl (by kernel_rfl) (by kernel_rfl) (by kernel_rfl) (fun _ _ _ h => h) (Or.inl ⟨by rfl, ?_⟩) (by assumption) ?_
            rotate_left
            focus (intro w' hSw; (try dsimp only at hSw); go_simp; try with_reducible rfl)
            try simp only [Act.put, List.setIfInBounds_toArray, List.set_cons_zero, List.set_cons_succ]
            refine wpAnyH_take (i := 2) (oi := { dst := some 121, op := Op.binOp BinOp.eql 3 (Operand.tmp 120) (Operand.const (Value.int IntKind.i64 7)) 3, type := 4, pos := "law.go:78", after := #[{ on := 1, ground := Ground.data }], guard := none }) (v := ?_) rfl (by kernel_rfl) (by kernel_rfl) (by kernel_rfl) (fun _ _ _ h => h) (Or.inl ⟨by rfl, ?_⟩) (by assumption) ?_
            rotate_left
            focus (intro w' hSw; (try dsimp only at hSw); go_simp; try with_reducible rfl)
            try simp only [Act.put, List.setIfInBounds_toArray, List.set_cons_zero, List.set_cons_succ]
            refine wpAnyH_take (i := 3) (oi := { dst := some 122, op := Op.move (Operand.tmp 121), type := 4, pos := "law.go:78", after := #[{ on := 2, ground := Ground.data }], guard := none }) (v := ?_) rfl (by kernel_rfl) (by kernel_rfl) (by kernel_rfl) (fun _ _ _ h => h) (Or.inl ⟨by rfl, ?_⟩) (by assumption) ?_
            rotate_left
            focus (intro w' hSw; (try dsimp only at hSw); go_simp; try with_reducible rfl)
            try simp only [Act.put, List.setIfInBounds_toArray, List.set_cons_zero, List.set_cons_succ]
            refine wpAnyH_take (i := 4) (oi := { dst := some 123, op := Op.move (Operand.tmp 7), type := 25, pos := "law.go:78", after := #[{ on := 3, ground := Ground.guard }], guard := some (3, true) }) (v := undef) rfl (by kernel_rfl) (by kernel_rfl) (by kernel_rfl) (fun _ _ _ h => h) (Or.inr ⟨by rfl, rfl⟩) (by assumption) ?_
            try simp only [Act.put, List.setIfInBounds_toArray, List.set_cons_zero, List.set_cons_succ]
            refine wpAnyH_take (i := 5) (oi := { dst := some 124, op := Op.call { callee := Callee.value (Operand.func 20), args := #[Operand.tmp 123], argTypes := #[25] }, type := 50, pos := "law.go:78", after := #[{ on := 4, ground := Ground.data }, { on := 3, ground := Ground.chain }, { on := 3, ground := Ground.guard }], guard := some (3, true) }) (v := undef) rfl (by kernel_rfl) (by kernel_rfl) (by kernel_rfl) (fun _ _ _ h => h) (Or.inr ⟨by rfl, rfl⟩) (by assumption) ?_
            try simp only [Act.put, List.setIfInBounds_toArray, List.set_cons_zero, List.set_cons_succ]
            refine wpAnyH_take (i := 6) (oi := { dst := some 125, op := Op.move (Operand.tmp 8), type := 27, pos := "law.go:78", after := #[{ on := 3, ground := Ground.guard }], guard := some (3, true) }) (v := undef) rfl (by kernel_rfl) (by kernel_rfl) (by kernel_rfl) (fun _ _ _ h => h) (Or.inr ⟨by rfl, rfl⟩) (by assumption) ?_
            try simp only [Act.put, List.setIfInBounds_toArray, List.set_cons_zero, List.set_cons_succ]
            refine wpAnyH_take (i := 7) (oi := { dst := some 126, op := Op.nilCheck (Operand.tmp 125), type := 0, pos := "law.go:78", after := #[{ on := 6, ground := Ground.data }, { on := 3, ground := Ground.guard }], guard := some (3, true) }) (v := undef) rfl (by kernel_rfl) (by kernel_rfl) (by kernel_rfl) (fun _ _ _ h => h) (Or.inr ⟨by rfl, rfl⟩) (by assumption) ?_
            try simp only [Act.put, List.setIfInBounds_toArray, List.set_cons_zero, List.set_cons_succ]
            refine wpAnyH_take (i := 8) (oi := { dst := some 127, op := Op.fieldAddr 30 (Operand.tmp 126) 0, type := 0, pos := "law.go:78", after := #[{ on := 7, ground := Ground.data }, { on := 3, ground := Ground.guard }], guard := some (3, true) }) (v := undef) rfl (by kernel_rfl) (by kernel_rfl) (by kernel_rfl) (fun _ _ _ h => h) (Or.inr ⟨by rfl, rfl⟩) (by assumption) ?_
            try simp only [Act.put, List.setIfInBounds_toArray, List.set_cons_zero, List.set_cons_succ]
            refine wpAnyH_take (i := 9) (oi := { dst := some 128, op := Op.load 28 (Operand.tmp 127), type := 28, pos := "law.go:78", after := #[{ on := 8, ground := Ground.data }, { on := 3, ground := Ground.guard }], guard := some (3, true) }) (v := undef) rfl (by kernel_rfl) (by kernel_rfl) (by kernel_rfl) (fun _ _ _ h => h) (Or.inr ⟨by rfl, rfl⟩) (by assumption) ?_
            try simp only [Act.put, List.setIfInBounds_toArray, List.set_cons_zero, List.set_cons_succ]
            refine wpAnyH_take (i := 10) (oi := { dst := some 129, op := Op.call { callee := Callee.value (Operand.func 19), args := #[Operand.tmp 124, Operand.tmp 128], argTypes := #[50, 28] }, type := 4, pos := "law.go:78", after := #[{ on := 5, ground := Ground.data }, { on := 9, ground := Ground.data }, { on := 5, ground := Ground.chain }, { on := 3, ground := Ground.guard }], guard := some (3, true) }) (v := undef) rfl (by kernel_rfl) (by kernel_rfl) (by kernel_rfl) (fun _ _ _ h => h) (Or.inr ⟨by rfl, rfl⟩) (by assumption) ?_
            try simp only [Act.put, List.setIfInBounds_toArray, List.set_cons_zero, List.set_cons_succ]
            refine wpAnyH_take (i := 11) (oi := { dst := some 130, op := Op.unOp UnOp.not 4 (Operand.tmp 129), type := 4, pos := "law.go:78", after := #[{ on := 10, ground := Ground.data }, { on := 3, ground := Ground.guard }], guard := some (3, true) }) (v := undef) rfl (by kernel_rfl) (by kernel_rfl) (by kernel_rfl) (fun _ _ _ h => h) (Or.inr ⟨by rfl, rfl⟩) (by assumption) ?_
            try simp only [Act.put, List.setIfInBounds_toArray, List.set_cons_zero, List.set_cons_succ]
            refine wpAnyH_take (i := 12) (oi := { dst := some 131, op := Op.pick (Operand.tmp 122) (Operand.tmp 130) (Operand.const (Value.bool false)), type := 4, pos := "law.go:78", after := #[{ on := 3, ground := Ground.data }, { on := 11, ground := Ground.data }], guard := none }) (v := ?_) rfl (by kernel_rfl) (by kernel_rfl) (by kernel_rfl) (fun _ _ _ h => h) (Or.inl ⟨by rfl, ?_⟩) (by assumption) ?_
            rotate_left
            focus (intro w' hSw; (try dsimp only at hSw); go_simp; try with_reducible rfl)
            try simp only [Act.put, List.setIfInBounds_toArray, List.set_cons_zero, List.set_cons_succ]
            refine wpAnyH_done (by kernel_rfl) ?_ _
            go_wp2_with fail
            go_roundw
            case rel => exact ⟨i + 1, by omega, by omega, by go_num, Lib.hid ⟨M, HP5.out, HM.out, HMK.out⟩⟩
            case measure => simp [intOf]; omega
        · by_cases hk1 : d.1 = 1
          · have e0 : (d.1 == 0) = false := by simpa using hk0
            have e1 : (d.1 == 1) = true := by simpa using hk1
            clear hk0 hk1
            obtain ⟨zc0, zc1, zc2⟩ := Dz.cells HZ.out.r
            have HD0 := Lib.hid (HZ.out.below (Below.refl _ _).drew)
            have hl9 : L.length ≤ 4096 := by omega
            clear ez
            by_cases hh : hasL L d.2.1
            · have HH := Lib.hid hh
              clear hh
              go_wp2_with fail
              go_region_held3 (fun w' => w'.cell? ⟨wr.heap.size, 1, none⟩ = some (.int .u64 d.2.1) ∧ w'.cell? ⟨wr.heap.size, 2, none⟩ = some (.int .u64 d.2.2))
                (first | exact ⟨zc1, zc2⟩ | exact k1 | exact k2)
                (first
                  | (go_at_call 12; refine (twr_del_x HD0.out d.2.1 hl9 HH.out).mono ?_; rintro e w5 ⟨rfl, h5⟩; have k1 := (Dz.cells h5.r).2; have K1 := Lib.hid h5; clear h5)
                  | (go_at_call 13; refine (twr_del_y K1.out d.2.1 hl9 HH.out).mono ?_; rintro e w6 ⟨rfl, h6⟩; have k2 := (Dz.cells h6.r).2; have K2 := Lib.hid h6; clear h6))
              obtain ⟨M, eM⟩ : ∃ M, M = delL L d.2.1 := ⟨_, rfl⟩
              have hM : M.length ≤ i + 1 := by rw [eM]; have := delL_len L d.2.1; omega
              have HMK := Lib.hid (show ∀ e ∈ M, e.1 ≤ 18446744073709551615 by rw [eM]; exact key_del HK.out)
              have HP := Lib.hid (show TwR wa x M y M (Dz wr.heap.size d) w6 by rw [eM]; exact K2.out)
              clear k1 k2 K1 zc0 zc1 zc2 eM
              have hi301 : M.length ≤ 301 := by omega
              obtain ⟨zc0, zc1, zc2⟩ := Dz.cells HP.out.r
              have HM := Lib.hid hM
              clear hM
              go_wp2_with fail
              refine (twr_get HP.out d.2.1 (by omega)).mono ?_
              rintro e wc ⟨⟨u, ok, rfl, g1⟩, hp1⟩
              have HP1 := Lib.hid hp1
              have G1 := Lib.hid g1
              obtain ⟨yc0, yc1, yc2⟩ := Dz.cells hp1.r
              clear hp1 g1 zc0 zc1 zc2
              go_wp2_with fail
              refine (twr_rget HP1.out d.2.1 (by omega)).mono ?_
              rintro e _ ⟨⟨u', ok', rfl, g2⟩, rfl⟩
              obtain ⟨eu, eok⟩ := GetS.one HP1.out.tw.up G1.out g2
              subst eu eok
              clear g2
              go_wp2_with fail
              refine (twr_next HP1.out fr (by omega)).mono ?_
              rintro e we ⟨⟨t, okn, rfl, n1⟩, hp2, _⟩
              have N1 := Lib.hid n1
              have HP2 := Lib.hid (hp2.below ((Below.refl we.heap.size we).alloc (Nat.le_refl _) (.cells #[.int .u64 t.1, .int .u64 t.2] 42)))
              clear n1 hp2 yc0 yc1 yc2
              go_wp2_with fail
              refine (twr_rnext HP2.out fr (by omega) HMK.out).mono ?_
              rintro e wf ⟨⟨t', okn', rfl, n2⟩, hp3, hbf⟩
              obtain ⟨et, eokn⟩ := NextS.one N1.out n2
              subst et eokn
              have hq0 : wf.heap[we.heap.size]? = some (.cells #[.int .u64 t'.1, .int .u64 t'.2] 42 (0, 0)) := (hbf.block _ (by simp)).trans (heap_alloc_new we _)
              have hq1 := Array.getElem?_eq_some_iff.1 hq0
              have HP3 := Lib.hid (hp3.below ((Below.refl wf.heap.size wf).alloc (Nat.le_refl _) (.cells #[.int .u64 t'.1, .int .u64 t'.2] 45)))
              have v1 : (wf.alloc (.cells #[.int .u64 t'.1, .int .u64 t'.2] 45)).cell? ⟨we.heap.size, 0, none⟩ = some (.int .u64 t'.1) := by rw [World.cell?_alloc_lt wf _ ⟨we.heap.size, 0, none⟩ hq1.1]; simp [World.cell?, hq0]
              have v2 : (wf.alloc (.cells #[.int .u64 t'.1, .int .u64 t'.2] 45)).cell? ⟨we.heap.size, 1, none⟩ = some (.int .u64 t'.2) := by rw [World.cell?_alloc_lt wf _ ⟨we.heap.size, 1, none⟩ hq1.1]; simp [World.cell?, hq0]
              have v3 : (wf.alloc (.cells #[.int .u64 t'.1, .int .u64 t'.2] 45)).cell? ⟨wf.heap.size, 0, none⟩ = some (.int .u64 t'.1) := by rw [World.cell?_alloc_new]; rfl
              have v4 : (wf.alloc (.cells #[.int .u64 t'.1, .int .u64 t'.2] 45)).cell? ⟨wf.heap.size, 1, none⟩ = some (.int .u64 t'.2) := by rw [World.cell?_alloc_new]; rfl
              obtain ⟨bo, cb, r1, r2, r3⟩ := HP3.out.tw.row
              have hneq := run_neq45 t'.1 t'.2 t'.1 t'.2
              have hqq : (!(t'.1 == t'.1 && t'.2 == t'.2)) = false := by simp
              rw [hqq] at hneq
              have HST := Lib.hid HP3.out.tw.one
              have bb1 : (u' != u') = false := by simp
              have bb2 : (ok' != ok') = false := by simp
              have bb3 : (okn' != okn') = false := by simp
              have bb4 : ((M.length : Int) != (M.length : Int)) = false := by simp
              clear hp3 hbf hq0 hq1 hqq n2 r2
              go_wp2_with fail
              go_quiet ((go_at_call 18; (first | exact Calls.quiet_of_same ((st_len HST.out).mono fun _ _ h => ⟨h.1, h.2.symm⟩) | exact Calls.quiet_of_same ((st_len (HST.out.below (Below.refl _ _).drew)).mono fun _ _ h => ⟨h.1, h.2.symm⟩) | exact Calls.quiet_of_same ((st_len (HST.out.below (Below.drewN_refl _ _))).mono fun _ _ h => ⟨h.1, h.2.symm⟩))))
              have HP4 := Lib.hid (HP3.out.tw.below (Below.drewN_refl _ nq))
              have HP5 := Lib.hid (HP4.out.below (Below.refl _ _).drew)
              have hnx : Tw wa x M y M (World.drew _) := HP5.out
              obtain ⟨bo, cb, r1, r2, r3⟩ := Tw.row hnx
              have HR2 := Lib.hid r2
              have hM9 : M.length ≤ 4096 := by omega
              have i9 : (0 : Int) ≤ (i : Int) := by omega
              clear v1 v2 v3 v4 hneq bb1 bb2 bb3 bb4 r2 hnx
              go_wp2_with fail
              by_cases h8 : (i : Int) % 8 = 7
              · have hne : ((i : Int) % 8 == 7) = true := by simpa using h8
                have hne2 : ((i : Int).tmod 8 == 7) = true := by rw [Int.tmod_eq_emod_of_nonneg (by omega)]; exact hne
                clear h8
                refine wp_region_held_drew (S := (fun w' => w'.cell? ⟨y, 0, none⟩ = some (.slice bo M.length cb))) (by kernel_rfl) r1 (fun hHeld => ?_)
                refine wpAnyH_take (i := 0) (oi := { dst := some 119, op := Op.move (Operand.tmp 9), type := 3, pos := "law.go:78", after := #[], guard := none }) (v := ?_) rfl (by kernel_rfl) (by kernel_rfl) (by kernel_rfl) (fun _ _ _ h => h) (Or.inl ⟨by rfl, ?_⟩) (by assumption) ?_
                rotate_left
                focus (intro w' hSw; (try dsimp only at hSw); go_simp; try with_reducible rfl)
                try simp only [Act.put, List.setIfInBounds_toArray, List.set_cons_zero, List.set_cons_succ]
                refine wpAnyH_take (i := 1) (oi := { dst := some 120, op := Op.binOp BinOp.rem 3 (Operand.tmp 119) (Operand.const (Value.int IntKind.i64 8)) 3, type := 3, pos := "law.go:78", after := #[{ on := 0, ground := Ground.data }], guard := none }) (v := ?_) rfl (by kernel_rfl) (by kernel_rfl) (by kernel_rfl) (fun _ _ _ h => h) (Or.inl ⟨by rfl, ?_⟩) (by assumption) ?_
                rotate_left
                focus (intro w' hSw; (try dsimp only at hSw); go_simp; try with_reducible rfl)
                try simp only [Act.put, List.setIfInBounds_toArray, List.set_cons_zero, List.set_cons_succ]
                refine wpAnyH_take (i := 2) (oi := { dst := some 121, op := Op.binOp BinOp.eql 3 (Operand.tmp 120) (Operand.const (Value.int IntKind.i64 7)) 3, type := 4, pos := "law.go:78", after := #[{ on := 1, ground := Ground.data }], guard := none }) (v := ?_) rfl (by kernel_rfl) (by kernel_rfl) (by kernel_rfl) (fun _ _ _ h => h) (Or.inl ⟨by rfl, ?_⟩) (by assumption) ?_
                rotate_left
                focus (intro w' hSw; (try dsimp only at hSw); go_simp; try with_reducible rfl)
                try simp only [Act.put, List.setIfInBounds_toArray, List.set_cons_zero, List.set_cons_succ]
                refine wpAnyH_take (i := 3) (oi := { dst := some 122, op := Op.move (Operand.tmp 121), type := 4, pos := "law.go:78", after := #[{ on := 2, ground := Ground.data }], guard := none }) (v := ?_) rfl (by kernel_rfl) (by kernel_rfl) (by kernel_rfl) (fun _ _ _ h => h) (Or.inl ⟨by rfl, ?_⟩) (by assumption) ?_
                rotate_left
                focus (intro w' hSw; (try dsimp only at hSw); go_simp; try with_reducible rfl)
                try simp only [Act.put, List.setIfInBounds_toArray, List.set_cons_zero, List.set_cons_succ]
                refine wpAnyH_take (i := 4) (oi := { dst := some 123, op := Op.move (Operand.tmp 7), type := 25, pos := "law.go:78", after := #[{ on := 3, ground := Ground.guard }], guard := some (3, true) }) (v := ?_) rfl (by kernel_rfl) (by kernel_rfl) (by kernel_rfl) (fun _ _ _ h => h) (Or.inl ⟨by rfl, ?_⟩) (by assumption) ?_
                rotate_left
                focus (intro w' hSw; (try dsimp only at hSw); go_simp; try with_reducible rfl)
                try simp only [Act.put, List.setIfInBounds_toArray, List.set_cons_zero, List.set_cons_succ]
                refine wpAnyH_take (i := 6) (oi := { dst := some 125, op := Op.move (Operand.tmp 8), type := 27, pos := "law.go:78", after := #[{ on := 3, ground := Ground.guard }], guard := some (3, true) }) (v := ?_) rfl (by kernel_rfl) (by kernel_rfl) (by kernel_rfl) (fun _ _ _ h => h) (Or.inl ⟨by rfl, ?_⟩) (by assumption) ?_
                rotate_left
                focus (intro w' hSw; (try dsimp only at hSw); go_simp; try with_reducible rfl)
                try simp only [Act.put, List.setIfInBounds_toArray, List.set_cons_zero, List.set_cons_succ]
                refine wpAnyH_take (i := 7) (oi := { dst := some 126, op := Op.nilCheck (Operand.tmp 125), type := 0, pos := "law.go:78", after := #[{ on := 6, ground := Ground.data }, { on := 3, ground := Ground.guard }], guard := some (3, true) }) (v := ?_) rfl (by kernel_rfl) (by kernel_rfl) (by kernel_rfl) (fun _ _ _ h => h) (Or.inl ⟨by rfl, ?_⟩) (by assumption) ?_
                rotate_left
                focus (intro w' hSw; (try dsimp only at hSw); go_simp; try with_reducible rfl)
                try simp only [Act.put, List.setIfInBounds_toArray, List.set_cons_zero, List.set_cons_succ]
                refine wpAnyH_take (i := 8) (oi := { dst := some 127, op := Op.fieldAddr 30 (Operand.tmp 126) 0, type := 0, pos := "law.go:78", after := #[{ on := 7, ground := Ground.data }, { on := 3, ground := Ground.guard }], guard := some (3, true) }) (v := ?_) rfl (by kernel_rfl) (by kernel_rfl) (by kernel_rfl) (fun _ _ _ h => h) (Or.inl ⟨by rfl, ?_⟩) (by assumption) ?_
                rotate_left
                focus (intro w' hSw; (try dsimp only at hSw); go_simp; try with_reducible rfl)
                try simp only [Act.put, List.setIfInBounds_toArray, List.set_cons_zero, List.set_cons_succ]
                refine wpAnyH_take (i := 9) (oi := { dst := some 128, op := Op.load 28 (Operand.tmp 127), type := 28, pos := "law.go:78", after := #[{ on := 8, ground := Ground.data }, { on := 3, ground := Ground.guard }], guard := some (3, true) }) (v := ?_) rfl (by kernel_rfl) (by kernel_rfl) (by kernel_rfl) (fun _ _ _ h => h) (Or.inl ⟨by rfl, ?_⟩) (by assumption) ?_
                rotate_left
                focus (intro w' hSw; (try dsimp only at hSw); go_simp; try with_reducible rfl)
                try simp only [Act.put, List.setIfInBounds_toArray, List.set_cons_zero, List.set_cons_succ]
                refine wpAnyH_ready (rs := [5]) (by kernel_rfl) (by simp) ?_
                refine AllReadyH.cons (o := { dst := some 124, op := Op.call { callee := Callee.value (Operand.func 20), args := #[Operand.tmp 123], argTypes := #[25] }, type := 50, pos := "law.go:78", after := #[{ on := 4, ground := Ground.data }, { on := 3, ground := Ground.chain }, { on := 3, ground := Ground.guard }], guard := some (3, true) }) rfl (fun K hK => ?_) AllReadyH.nil
                go_simp
                go_at_call 20; refine (tw_pages HP5.out hM9).mono ?_; rintro e w7 ⟨⟨X, hf, eX, ht⟩, h7, hb7⟩; obtain ⟨aoP, caP, rfl, pc⟩ := PgsCall (cb := cb) hf (by rw [eX]; exact hM9) ht (Below.refl _ _) (by rw [eX]; exact HR2.out.on hb7); rw [eX] at pc; have k1 := (hb7.cell (p := ⟨y, 0, none⟩) r3).trans r1; have PC := Lib.hid pc; have K3 := Lib.hid (And.intro h7 hb7); clear pc h7 ht hf eX
                refine hK.out _ _ k1 (fun hHeld => ?_)
                clear hK K
                try simp only [Act.put, List.setIfInBounds_toArray, List.set_cons_zero, List.set_cons_succ]
                refine wpAnyH_ready (rs := [10]) (by kernel_rfl) (by simp) ?_
                refine AllReadyH.cons (o := { dst := some 129, op := Op.call { callee := Callee.value (Operand.func 19), args := #[Operand.tmp 124, Operand.tmp 128], argTypes := #[50, 28] }, type := 4, pos := "law.go:78", after := #[{ on := 5, ground := Ground.data }, { on := 9, ground := Ground.data }, { on := 5, ground := Ground.chain }, { on := 3, ground := Ground.guard }], guard := some (3, true) }) rfl (fun K hK => ?_) AllReadyH.nil
                go_simp
                go_at_call 19; refine PC.out.mono ?_; rintro e w8 ⟨rfl, hb8⟩; have k2 := (hb8.cell (p := ⟨y, 0, none⟩) (Nat.lt_of_lt_of_le r3 K3.out.2.size)).trans k1; have K4 := Lib.hid (K3.out.1.below hb8); clear hb8
                refine hK.out _ _ k2 (fun hHeld => ?_)
                clear hK K
                try simp only [Act.put, List.setIfInBounds_toArray, List.set_cons_zero, List.set_cons_succ]
                refine wpAnyH_take (i := 11) (oi := { dst := some 130, op := Op.unOp UnOp.not 4 (Operand.tmp 129), type := 4, pos := "law.go:78", after := #[{ on := 10, ground := Ground.data }, { on := 3, ground := Ground.guard }], guard := some (3, true) }) (v := ?_) rfl (by kernel_rfl) (by kernel_rfl) (by kernel_rfl) (fun _ _ _ h => h) (Or.inl ⟨by rfl, ?_⟩) (by assumption) ?_
                rotate_left
                focus (intro w' hSw; (try dsimp only at hSw); go_simp; try with_reducible rfl)
                try simp only [Act.put, List.setIfInBounds_toArray, List.set_cons_zero, List.set_cons_succ]
                refine wpAnyH_take (i := 12) (oi := { dst := some 131, op := Op.pick (Operand.tmp 122) (Operand.tmp 130) (Operand.const (Value.bool false)), type := 4, pos := "law.go:78", after := #[{ on := 3, ground := Ground.data }, { on := 11, ground := Ground.data }], guard := none }) (v := ?_) rfl (by kernel_rfl) (by kernel_rfl) (by kernel_rfl) (fun _ _ _ h => h) (Or.inl ⟨by rfl, ?_⟩) (by assumption) ?_
                rotate_left
                focus (intro w' hSw; (try dsimp only at hSw); go_simp; try with_reducible rfl)
                try simp only [Act.put, List.setIfInBounds_toArray, List.set_cons_zero, List.set_cons_succ]
                refine wpAnyH_done (by kernel_rfl) ?_ _
                go_wp2_with fail
                go_roundw
                case rel => exact ⟨i + 1, by omega, by omega, by go_num, Lib.hid ⟨M, K4.out, HM.out, HMK.out⟩⟩
                case measure => simp [intOf]; omega
              · have hne : ((i : Int) % 8 == 7) = false := by simpa using h8
                have hne2 : ((i : Int).tmod 8 == 7) = false := by rw [Int.tmod_eq_emod_of_nonneg (by omega)]; exact hne
                clear h8
                refine wp_region_held_drew (S := (fun _ => True)) (by kernel_rfl) trivial (fun hHeld => ?_)
                refine wpAnyH_take (i := 0) (oi := { dst := some 119, op := Op.move (Operand.tmp 9), type := 3, pos := "law.go:78", after := #[], guard := none }) (v := ?_) rfl (by kernel_rfl) (by kernel_rfl) (by kernel_rfl) (fun _ _ _ h => h) (Or.inl ⟨by rfl, ?_⟩) (by assumption) ?_
                rotate_left
                focus (intro w' hSw; (try dsimp only at hSw); go_simp; try with_reducible rfl)
                try simp only [Act.put, List.setIfInBounds_toArray, List.set_cons_zero, List.set_cons_succ]
                refine wpAnyH_take (i := 1) (oi := { dst := some 120, op := Op.binOp BinOp.rem 3 (Operand.tmp 119) (Operand.const (Value.int IntKind.i64 8)) 3, type := 3, pos := "law.go:78", after := #[{ on := 0, ground := Ground.data }], guard := none }) (v := ?_) rfl (by kernel_rfl) (by kernel_rfl) (by kernel_rfl) (fun _ _ _ h => h) (Or.inl ⟨by rfl, ?_⟩) (by assumption) ?_
                rotate_left
                focus (intro w' hSw; (try dsimp only at hSw); go_simp; try with_reducible rfl)
                try simp only [Act.put, List.setIfInBounds_toArray, List.set_cons_zero, List.set_cons_succ]
                refine wpAnyH_take (i := 2) (oi := { dst := some 121, op := Op.binOp BinOp.eql 3 (Operand.tmp 120) (Operand.const (Value.int IntKind.i64 7)) 3, type := 4, pos := "law.go:78", after := #[{ on := 1, ground := Ground.data }], guard := none }) (v := ?_) rfl (by kernel_rfl) (by kernel_rfl) (by kernel_rfl) (fun _ _ _ h => h) (Or.inl ⟨by rfl, ?_⟩) (by assumption) ?_
                rotate_left
                focus (intro w' hSw; (try dsimp only at hSw); go_simp; try with_reducible rfl)
                try simp only [Act.put, List.setIfInBounds_toArray, List.set_cons_zero, List.set_cons_succ]
                refine wpAnyH_take (i := 3) (oi := { dst := some 122, op := Op.move (Operand.tmp 121), type := 4, pos := "law.go:78", after := #[{ on := 2, ground := Ground.data }], guard := none }) (v := ?_) rfl (by kernel_rfl) (by kernel_rfl) (by kernel_rfl) (fun _ _ _ h => h) (Or.inl ⟨by rfl, ?_⟩) (by assumption) ?_
                rotate_left
                focus (intro w' hSw; (try dsimp only at hSw); go_simp; try with_reducible rfl)
                try simp only [Act.put, List.setIfInBounds_toArray, List.set_cons_zero, List.set_cons_succ]
                refine wpAnyH_take (i := 4) (oi := { dst := some 123, op := Op.move (Operand.tmp 7), type := 25, pos := "law.go:78", after := #[{ on := 3, ground := Ground.guard }], guard := some (3, true) }) (v := undef) rfl (by kernel_rfl) (by kernel_rfl) (by kernel_rfl) (fun _ _ _ h => h) (Or.inr ⟨by rfl, rfl⟩) (by assumption) ?_
                try simp only [Act.put, List.setIfInBounds_toArray, List.set_cons_zero, List.set_cons_succ]
                refine wpAnyH_take (i := 5) (oi := { dst := some 124, op := Op.call { callee := Callee.value (Operand.func 20), args := #[Operand.tmp 123], argTypes := #[25] }, type := 50, pos := "law.go:78", after := #[{ on := 4, ground := Ground.data }, { on := 3, ground := Ground.chain }, { on := 3, ground := Ground.guard }], guard := some (3, true) }) (v := undef) rfl (by kernel_rfl) (by kernel_rfl) (by kernel_rfl) (fun _ _ _ h => h) (Or.inr ⟨by rfl, rfl⟩) (by assumption) ?_
                try simp only [Act.put, List.setIfInBounds_toArray, List.set_cons_zero, List.set_cons_succ]
                refine wpAnyH_take (i := 6) (oi := { dst := some 125, op := Op.move (Operand.tmp 8), type := 27, pos := "law.go:78", after := #[{ on := 3, ground := Ground.guard }], guard := some (3, true) }) (v := undef) rfl (by kernel_rfl) (by kernel_rfl) (by kernel_rfl) (fun _ _ _ h => h) (Or.inr ⟨by rfl, rfl⟩) (by assumption) ?_
                try simp only [Act.put, List.setIfInBounds_toArray, List.set_cons_zero, List.set_cons_succ]
                refine wpAnyH_take (i := 7) (oi := { dst := some 126, op := Op.nilCheck (Operand.tmp 125), type := 0, pos := "law.go:78", after := #[{ on := 6, ground := Ground.data }, { on := 3, ground := Ground.guard }], guard := some (3, true) }) (v := undef) rfl (by kernel_rfl) (by kernel_rfl) (by kernel_rfl) (fun _ _ _ h => h) (Or.inr ⟨by rfl, rfl⟩) (by assumption) ?_
                try simp only [Act.put, List.setIfInBounds_toArray, List.set_cons_zero, List.set_cons_succ]
                refine wpAnyH_take (i := 8) (oi := { dst := some 127, op := Op.fieldAddr 30 (Operand.tmp 126) 0, type := 0, pos := "law.go:78", after := #[{ on := 7, ground := Ground.data }, { on := 3, ground := Ground.guard }], guard := some (3, true) }) (v := undef) rfl (by kernel_rfl) (by kernel_rfl) (by kernel_rfl) (fun _ _ _ h => h) (Or.inr ⟨by rfl, rfl⟩) (by assumption) ?_
                try simp only [Act.put, List.setIfInBounds_toArray, List.set_cons_zero, List.set_cons_succ]
                refine wpAnyH_take (i := 9) (oi := { dst := some 128, op := Op.load 28 (Operand.tmp 127), type := 28, pos := "law.go:78", after := #[{ on := 8, ground := Ground.data }, { on := 3, ground := Ground.guard }], guard := some (3, true) }) (v := undef) rfl (by kernel_rfl) (by kernel_rfl) (by kernel_rfl) (fun _ _ _ h => h) (Or.inr ⟨by rfl, rfl⟩) (by assumption) ?_
                try simp only [Act.put, List.setIfInBounds_toArray, List.set_cons_zero, List.set_cons_succ]
                refine wpAnyH_take (i := 10) (oi := { dst := some 129, op := Op.call { callee := Callee.value (Operand.func 19), args := #[Operand.tmp 124, Operand.tmp 128], argTypes := #[50, 28] }, type := 4, pos := "law.go:78", after := #[{ on := 5, ground := Ground.data }, { on := 9, ground := Ground.data }, { on := 5, ground := Ground.chain }, { on := 3, ground := Ground.guard }], guard := some (3, true) }) (v := undef) rfl (by kernel_rfl) (by kernel_rfl) (by kernel_rfl) (fun _ _ _ h => h) (Or.inr ⟨by rfl, rfl⟩) (by assumption) ?_
                try simp only [Act.put, List.setIfInBounds_toArray, List.set_cons_zero, List.set_cons_succ]
                refine wpAnyH_take (i := 11) (oi := { dst := some 130, op := Op.unOp UnOp.not 4 (Operand.tmp 129), type := 4, pos := "law.go:78", after := #[{ on := 10, ground := Ground.data }, { on := 3, ground := Ground.guard }], guard := some (3, true) }) (v := undef) rfl (by kernel_rfl) (by kernel_rfl) (by kernel_rfl) (fun _ _ _ h => h) (Or.inr ⟨by rfl, rfl⟩) (by assumption) ?_
                try simp only [Act.put, List.setIfInBounds_toArray, List.set_cons_zero, List.set_cons_succ]
                refine wpAnyH_take (i := 12) (oi := { dst := some 131, op := Op.pick (Operand.tmp 122) (Operand.tmp 130) (Operand.const (Value.bool false)), type := 4, pos := "law.go:78", after := #[{ on := 3, ground := Ground.data }, { on := 11, ground := Ground.data }], guard := none }) (v := ?_) rfl (by kernel_rfl) (by kernel_rfl) (by kernel_rfl) (fun _ _ _ h => h) (Or.inl ⟨by rfl, ?_⟩) (by assumption) ?_
                rotate_left
                focus (intro w' hSw; (try dsimp only at hSw); go_simp; try with_reducible rfl)
                try simp only [Act.put, List.setIfInBounds_toArray, List.set_cons_zero, List.set_cons_succ]
                refine wpAnyH_done (by kernel_rfl) ?_ _
                go_wp2_with fail
                go_roundw
                case rel => exact ⟨i + 1, by omega, by omega, by go_num, Lib.hid ⟨M, HP5.out, HM.out, HMK.out⟩⟩
                case measure => simp [intOf]; omega
            · have HH := Lib.hid hh
              clear hh
              go_wp2_with fail
              go_region_held3 (fun w' => w'.cell? ⟨wr.heap.size, 1, none⟩ = some (.int .u64 d.2.1) ∧ w'.cell? ⟨wr.heap.size, 2, none⟩ = some (.int .u64 d.2.2))
                (first | exact ⟨zc1, zc2⟩ | exact k1 | exact k2)
                (first
                  | (go_at_call 12; refine (twr_del_x0 HD0.out d.2.1 hl9 HH.out).mono ?_; rintro e w5 ⟨rfl, h5⟩; have k1 := (Dz.cells h5.r).2; have K1 := Lib.hid h5; clear h5)
                  | (go_at_call 13; refine (twr_del_y0 K1.out d.2.1 hl9 HH.out).mono ?_; rintro e w6 ⟨rfl, h6⟩; have k2 := (Dz.cells h6.r).2; have K2 := Lib.hid h6; clear h6))
              obtain ⟨M, eM⟩ : ∃ M, M = L := ⟨_, rfl⟩
              have hM : M.length ≤ i + 1 := by rw [eM]; omega
              have HMK := Lib.hid (show ∀ e ∈ M, e.1 ≤ 18446744073709551615 by rw [eM]; exact HK.out)
              have HP := Lib.hid (show TwR wa x M y M (Dz wr.heap.size d) w6 by rw [eM]; exact K2.out)
              clear k1 k2 K1 zc0 zc1 zc2 eM
              have hi301 : M.length ≤ 301 := by omega
              obtain ⟨zc0, zc1, zc2⟩ := Dz.cells HP.out.r
              have HM := Lib.hid hM
              clear hM
              go_wp2_with fail
              refine (twr_get HP.out d.2.1 (by omega)).mono ?_
              rintro e wc ⟨⟨u, ok, rfl, g1⟩, hp1⟩
              have HP1 := Lib.hid hp1
              have G1 := Lib.hid g1
              obtain ⟨yc0, yc1, yc2⟩ := Dz.cells hp1.r
              clear hp1 g1 zc0 zc1 zc2
              go_wp2_with fail
              refine (twr_rget HP1.out d.2.1 (by omega)).mono ?_
              rintro e _ ⟨⟨u', ok', rfl, g2⟩, rfl⟩
              obtain ⟨eu, eok⟩ := GetS.one HP1.out.tw.up G1.out g2
              subst eu eok
              clear g2
              go_wp2_with fail
              refine (twr_next HP1.out fr (by omega)).mono ?_
              rintro e we ⟨⟨t, okn, rfl, n1⟩, hp2, _⟩
              have N1 := Lib.hid n1
              have HP2 := Lib.hid (hp2.below ((Below.refl we.heap.size we).alloc (Nat.le_refl _) (.cells #[.int .u64 t.1, .int .u64 t.2] 42)))
              clear n1 hp2 yc0 yc1 yc2
              go_wp2_with fail
              refine (twr_rnext HP2.out fr (by omega) HMK.out).mono ?_
              rintro e wf ⟨⟨t', okn', rfl, n2⟩, hp3, hbf⟩
              obtain ⟨et, eokn⟩ := NextS.one N1.out n2
              subst et eokn
              have hq0 : wf.heap[we.heap.size]? = some (.cells #[.int .u64 t'.1, .int .u64 t'.2] 42 (0, 0)) := (hbf.block _ (by simp)).trans (heap_alloc_new we _)
              have hq1 := Array.getElem?_eq_some_iff.1 hq0
              have HP3 := Lib.hid (hp3.below ((Below.refl wf.heap.size wf).alloc (Nat.le_refl _) (.cells #[.int .u64 t'.1, .int .u64 t'.2] 45)))
              have v1 : (wf.alloc (.cells #[.int .u64 t'.1, .int .u64 t'.2] 45)).cell? ⟨we.heap.size, 0, none⟩ = some (.int .u64 t'.1) := by rw [World.cell?_alloc_lt wf _ ⟨we.heap.size, 0, none⟩ hq1.1]; simp [World.cell?, hq0]
              have v2 : (wf.alloc (.cells #[.int .u64 t'.1, .int .u64 t'.2] 45)).cell? ⟨we.heap.size, 1, none⟩ = some (.int .u64 t'.2) := by rw [World.cell?_alloc_lt wf _ ⟨we.heap.size, 1, none⟩ hq1.1]; simp [World.cell?, hq0]
              have v3 : (wf.alloc (.cells #[.int .u64 t'.1, .int .u64 t'.2] 45)).cell? ⟨wf.heap.size, 0, none⟩ = some (.int .u64 t'.1) := by rw [World.cell?_alloc_new]; rfl
              have v4 : (wf.alloc (.cells #[.int .u64 t'.1, .int .u64 t'.2] 45)).cell? ⟨wf.heap.size, 1, none⟩ = some (.int .u64 t'.2) := by rw [World.cell?_alloc_new]; rfl
              obtain ⟨bo, cb, r1, r2, r3⟩ := HP3.out.tw.row
              have hneq := run_neq45 t'.1 t'.2 t'.1 t'.2
              have hqq : (!(t'.1 == t'.1 && t'.2 == t'.2)) = false := by simp
              rw [hqq] at hneq
              have HST := Lib.hid HP3.out.tw.one
              have bb1 : (u' != u') = false := by simp
              have bb2 : (ok' != ok') = false := by simp
              have bb3 : (okn' != okn') = false := by simp
              have bb4 : ((M.length : Int) != (M.length : Int)) = false := by simp
              clear hp3 hbf hq0 hq1 hqq n2 r2
              go_wp2_with fail
              go_quiet ((go_at_call 18; (first | exact Calls.quiet_of_same ((st_len HST.out).mono fun _ _ h => ⟨h.1, h.2.symm⟩) | exact Calls.quiet_of_same ((st_len (HST.out.below (Below.refl _ _).drew)).mono fun _ _ h => ⟨h.1, h.2.symm⟩) | exact Calls.quiet_of_same ((st_len (HST.out.below (Below.drewN_refl _ _))).mono fun _ _ h => ⟨h.1, h.2.symm⟩))))
              have HP4 := Lib.hid (HP3.out.tw.below (Below.drewN_refl _ nq))
              have HP5 := Lib.hid (HP4.out.below (Below.refl _ _).drew)
              have hnx : Tw wa x M y M (World.drew _) := HP5.out
              obtain ⟨bo, cb, r1, r2, r3⟩ := Tw.row hnx
              have HR2 := Lib.hid r2
              have hM9 : M.length ≤ 4096 := by omega
              have i9 : (0 : Int) ≤ (i : Int) := by omega
              clear v1 v2 v3 v4 hneq bb1 bb2 bb3 bb4 r2 hnx
              go_wp2_with fail
              by_cases h8 : (i : Int) % 8 = 7
              · have hne : ((i : Int) % 8 == 7) = true := by simpa using h8
                have hne2 : ((i : Int).tmod 8 == 7) = true := by rw [Int.tmod_eq_emod_of_nonneg (by omega)]; exact hne
                clear h8
                refine wp_region_held_drew (S := (fun w' => w'.cell? ⟨y, 0, none⟩ = some (.slice bo M.length cb))) (by kernel_rfl) r1 (fun hHeld => ?_)
                refine wpAnyH_take (i := 0) (oi := { dst := some 119, op := Op.move (Operand.tmp 9), type := 3, pos := "law.go:78", after := #[], guard := none }) (v := ?_) rfl (by kernel_rfl) (by kernel_rfl) (by kernel_rfl) (fun _ _ _ h => h) (Or.inl ⟨by rfl, ?_⟩) (by assumption) ?_
                rotate_left
                focus (intro w' hSw; (try dsimp only at hSw); go_simp; try with_reducible rfl)
                try simp only [Act.put, List.setIfInBounds_toArray, List.set_cons_zero, List.set_cons_succ]
                refine wpAnyH_take (i := 1) (oi := { dst := some 120, op := Op.binOp BinOp.rem 3 (Operand.tmp 119) (Operand.const (Value.int IntKind.i64 8)) 3, type := 3, pos := "law.go:78", after := #[{ on := 0, ground := Ground.data }], guard := none }) (v := ?_) rfl (by kernel_rfl) (by kernel_rfl) (by kernel_rfl) (fun _ _ _ h => h) (Or.inl ⟨by rfl, ?_⟩) (by assumption) ?_
                rotate_left
                focus (intro w' hSw; (try dsimp only at hSw); go_simp; try with_reducible rfl)
                try simp only [Act.put, List.setIfInBounds_toArray, List.set_cons_zero, List.set_cons_succ]
                refine wpAnyH_take (i := 2) (oi := { dst := some 121, op := Op.binOp BinOp.eql 3 (Operand.tmp 120) (Operand.const (Value.int IntKind.i64 7)) 3, type := 4, pos := "law.go:78", after := #[{ on := 1, ground := Ground.data }], guard := none }) (v := ?_) rfl (by kernel_rfl) (by kernel_rfl) (by kernel_rfl) (fun _ _ _ h => h) (Or.inl ⟨by rfl, ?_⟩) (by assumption) ?_
                rotate_left
                focus (intro w' hSw; (try dsimp only at hSw); go_simp; try with_reducible rfl)
                try simp only [Act.put, List.setIfInBounds_toArray, List.set_cons_zero, List.set_cons_succ]
                refine wpAnyH_take (i := 3) (oi := { dst := some 122, op := Op.move (Operand.tmp 121), type := 4, pos := "law.go:78", after := #[{ on := 2, ground := Ground.data }], guard := none }) (v := ?_) rfl (by kernel_rfl) (by kernel_rfl) (by kernel_rfl) (fun _ _ _ h => h) (Or.inl ⟨by rfl, ?_⟩) (by assumption) ?_
                rotate_left
                focus (intro w' hSw; (try dsimp only at hSw); go_simp; try with_reducible rfl)
                try simp only [Act.put, List.setIfInBounds_toArray, List.set_cons_zero, List.set_cons_succ]
                refine wpAnyH_take (i := 4) (oi := { dst := some 123, op := Op.move (Operand.tmp 7), type := 25, pos := "law.go:78", after := #[{ on := 3, ground := Ground.guard }], guard := some (3, true) }) (v := ?_) rfl (by kernel_rfl) (by kernel_rfl) (by kernel_rfl) (fun _ _ _ h => h) (Or.inl ⟨by rfl, ?_⟩) (by assumption) ?_
                rotate_left
                focus (intro w' hSw; (try dsimp only at hSw); go_simp; try with_reducible rfl)
                try simp only [Act.put, List.setIfInBounds_toArray, List.set_cons_zero, List.set_cons_succ]
                refine wpAnyH_take (i := 6) (oi := { dst := some 125, op := Op.move (Operand.tmp 8), type := 27, pos := "law.go:78", after := #[{ on := 3, ground := Ground.guard }], guard := some (3, true) }) (v := ?_) rfl (by kernel_rfl) (by kernel_rfl) (by kernel_rfl) (fun _ _ _ h => h) (Or.inl ⟨by rfl, ?_⟩) (by assumption) ?_
                rotate_left
                focus (intro w' hSw; (try dsimp only at hSw); go_simp; try with_reducible rfl)
                try simp only [Act.put, List.setIfInBounds_toArray, List.set_cons_zero, List.set_cons_succ]
                refine wpAnyH_take (i := 7) (oi := { dst := some 126, op := Op.nilCheck (Operand.tmp 125), type := 0, pos := "law.go:78", after := #[{ on := 6, ground := Ground.data }, { on := 3, ground := Ground.guard }], guard := some (3, true) }) (v := ?_) rfl (by kernel_rfl) (by kernel_rfl) (by kernel_rfl) (fun _ _ _ h => h) (Or.inl ⟨by rfl, ?_⟩) (by assumption) ?_
                rotate_left
                focus (intro w' hSw; (try dsimp only at hSw); go_simp; try with_reducible rfl)
                try simp only [Act.put, List.setIfInBounds_toArray, List.set_cons_zero, List.set_cons_succ]
                refine wpAnyH_take (i := 8) (oi := { dst := some 127, op := Op.fieldAddr 30 (Operand.tmp 126) 0, type := 0, pos := "law.go:78", after := #[{ on := 7, ground := Ground.data }, { on := 3, ground := Ground.guard }], guard := some (3, true) }) (v := ?_) rfl (by kernel_rfl) (by kernel_rfl) (by kernel_rfl) (fun _ _ _ h => h) (Or.inl ⟨by rfl, ?_⟩) (by assumption) ?_
                rotate_left
                focus (intro w' hSw; (try dsimp only at hSw); go_simp; try with_reducible rfl)
                try simp only [Act.put, List.setIfInBounds_toArray, List.set_cons_zero, List.set_cons_succ]
                refine wpAnyH_take (i := 9) (oi := { dst := some 128, op := Op.load 28 (Operand.tmp 127), type := 28, pos := "law.go:78", after := #[{ on := 8, ground := Ground.data }, { on := 3, ground := Ground.guard }], guard := some (3, true) }) (v := ?_) rfl (by kernel_rfl) (by kernel_rfl) (by kernel_rfl) (fun _ _ _ h => h) (Or.inl ⟨by rfl, ?_⟩) (by assumption) ?_
                rotate_left
                focus (intro w' hSw; (try dsimp only at hSw); go_simp; try with_reducible rfl)
                try simp only [Act.put, List.setIfInBounds_toArray, List.set_cons_zero, List.set_cons_succ]
                refine wpAnyH_ready (rs := [5]) (by kernel_rfl) (by simp) ?_
                refine AllReadyH.cons (o := { dst := some 124, op := Op.call { callee := Callee.value (Operand.func 20), args := #[Operand.tmp 123], argTypes := #[25] }, type := 50, pos := "law.go:78", after := #[{ on := 4, ground := Ground.data }, { on := 3, ground := Ground.chain }, { on := 3, ground := Ground.guard }], guard := some (3, true) }) rfl (fun K hK => ?_) AllReadyH.nil
                go_simp
                go_at_call 20; refine (tw_pages HP5.out hM9).mono ?_; rintro e w7 ⟨⟨X, hf, eX, ht⟩, h7, hb7⟩; obtain ⟨aoP, caP, rfl, pc⟩ := PgsCall (cb := cb) hf (by rw [eX]; exact hM9) ht (Below.refl _ _) (by rw [eX]; exact HR2.out.on hb7); rw [eX] at pc; have k1 := (hb7.cell (p := ⟨y, 0, none⟩) r3).trans r1; have PC := Lib.hid pc; have K3 := Lib.hid (And.intro h7 hb7); clear pc h7 ht hf eX
                refine hK.out _ _ k1 (fun hHeld => ?_)
                clear hK K
                try simp only [Act.put, List.setIfInBounds_toArray, List.set_cons_zero, List.set_cons_succ]
                refine wpAnyH_ready (rs := [10]) (by kernel_rfl) (by simp) ?_
                refine AllReadyH.cons (o := { dst := some 129, op := Op.call { callee := Callee.value (Operand.func 19), args := #[Operand.tmp 124, Operand.tmp 128], argTypes := #[50, 28] }, type := 4, pos := "law.go:78", after := #[{ on := 5, ground := Ground.data }, { on := 9, ground := Ground.data }, { on := 5, ground := Ground.chain }, { on := 3, ground := Ground.guard }], guard := some (3, true) }) rfl (fun K hK => ?_) AllReadyH.nil
                go_simp
                go_at_call 19; refine PC.out.mono ?_; rintro e w8 ⟨rfl, hb8⟩; have k2 := (hb8.cell (p := ⟨y, 0, none⟩) (Nat.lt_of_lt_of_le r3 K3.out.2.size)).trans k1; have K4 := Lib.hid (K3.out.1.below hb8); clear hb8
                refine hK.out _ _ k2 (fun hHeld => ?_)
                clear hK K
                try simp only [Act.put, List.setIfInBounds_toArray, List.set_cons_zero, List.set_cons_succ]
                refine wpAnyH_take (i := 11) (oi := { dst := some 130, op := Op.unOp UnOp.not 4 (Operand.tmp 129), type := 4, pos := "law.go:78", after := #[{ on := 10, ground := Ground.data }, { on := 3, ground := Ground.guard }], guard := some (3, true) }) (v := ?_) rfl (by kernel_rfl) (by kernel_rfl) (by kernel_rfl) (fun _ _ _ h => h) (Or.inl ⟨by rfl, ?_⟩) (by assumption) ?_
                rotate_left
                focus (intro w' hSw; (try dsimp only at hSw); go_simp; try with_reducible rfl)
                try simp only [Act.put, List.setIfInBounds_toArray, List.set_cons_zero, List.set_cons_succ]
                refine wpAnyH_take (i := 12) (oi := { dst := some 131, op := Op.pick (Operand.tmp 122) (Operand.tmp 130) (Operand.const (Value.bool false)), type := 4, pos := "law.go:78", after := #[{ on := 3, ground := Ground.data }, { on := 11, ground := Ground.data }], guard := none }) (v := ?_) rfl (by kernel_rfl) (by kernel_rfl) (by kernel_rfl) (fun _ _ _ h => h) (Or.inl ⟨by rfl, ?_⟩) (by assumption) ?_
                rotate_left
                focus (intro w' hSw; (try dsimp only at hSw); go_simp; try with_reducible rfl)
                try simp only [Act.put, List.setIfInBounds_toArray, List.set_cons_zero, List.set_cons_succ]
                refine wpAnyH_done (by kernel_rfl) ?_ _
                go_wp2_with fail
                go_roundw
                case rel => exact ⟨i + 1, by omega, by omega, by go_num, Lib.hid ⟨M, K4.out, HM.out, HMK.out⟩⟩
                case measure => simp [intOf]; omega
              · have hne : ((i : Int) % 8 == 7) = false := by simpa using h8
                have hne2 : ((i : Int).tmod 8 == 7) = false := by rw [Int.tmod_eq_emod_of_nonneg (by omega)]; exact hne
                clear h8
                refine wp_region_held_drew (S := (fun _ => True)) (by kernel_rfl) trivial (fun hHeld => ?_)
                refine wpAnyH_take (i := 0) (oi := { dst := some 119, op := Op.move (Operand.tmp 9), type := 3, pos := "law.go:78", after := #[], guard := none }) (v := ?_) rfl (by kernel_rfl) (by kernel_rfl) (by kernel_rfl) (fun _ _ _ h => h) (Or.inl ⟨by rfl, ?_⟩) (by assumption) ?_
                rotate_left
                focus (intro w' hSw; (try dsimp only at hSw); go_simp; try with_reducible rfl)
                try simp only [Act.put, List.setIfInBounds_toArray, List.set_cons_zero, List.set_cons_succ]
                refine wpAnyH_take (i := 1) (oi := { dst := some 120, op := Op.binOp BinOp.rem 3 (Operand.tmp 119) (Operand.const (Value.int IntKind.i64 8)) 3, type := 3, pos := "law.go:78", after := #[{ on := 0, ground := Ground.data }], guard := none }) (v := ?_) rfl (by kernel_rfl) (by kernel_rfl) (by kernel_rfl) (fun _ _ _ h => h) (Or.inl ⟨by rfl, ?_⟩) (by assumption) ?_
                rotate_left
                focus (intro w' hSw; (try dsimp only at hSw); go_simp; try with_reducible rfl)
                try simp only [Act.put, List.setIfInBounds_toArray, List.set_cons_zero, List.set_cons_succ]
                refine wpAnyH_take (i := 2) (oi := { dst := some 121, op := Op.binOp BinOp.eql 3 (Operand.tmp 120) (Operand.const (Value.int IntKind.i64 7)) 3, type := 4, pos := "law.go:78", after := #[{ on := 1, ground := Ground.data }], guard := none }) (v := ?_) rfl (by kernel_rfl) (by kernel_rfl) (by kernel_rfl) (fun _ _ _ h => h) (Or.inl ⟨by rfl, ?_⟩) (by assumption) ?_
                rotate_left
                focus (intro w' hSw; (try dsimp only at hSw); go_simp; try with_reducible rfl)
                try simp only [Act.put, List.setIfInBounds_toArray, List.set_cons_zero, List.set_cons_succ]
                refine wpAnyH_take (i := 3) (oi := { dst := some 122, op := Op.move (Operand.tmp 121), type := 4, pos := "law.go:78", after := #[{ on := 2, ground := Ground.data }], guard := none }) (v := ?_) rfl (by kernel_rfl) (by kernel_rfl) (by kernel_rfl) (fun _ _ _ h => h) (Or.inl ⟨by rfl, ?_⟩) (by assumption) ?_
                rotate_left
                focus (intro w' hSw; (try dsimp only at hSw); go_simp; try with_reducible rfl)
                try simp only [Act.put, List.setIfInBounds_toArray, List.set_cons_zero, List.set_cons_succ]
                refine wpAnyH_take (i := 4) (oi := { dst := some 123, op := Op.move (Operand.tmp 7), type := 25, pos := "law.go:78", after := #[{ on := 3, ground := Ground.guard }], guard := some (3, true) }) (v := undef) rfl (by kernel_rfl) (by kernel_rfl) (by kernel_rfl) (fun _ _ _ h => h) (Or.inr ⟨by rfl, rfl⟩) (by assumption) ?_
                try simp only [Act.put, List.setIfInBounds_toArray, List.set_cons_zero, List.set_cons_succ]
                refine wpAnyH_take (i := 5) (oi := { dst := some 124, op := Op.call { callee := Callee.value (Operand.func 20), args := #[Operand.tmp 123], argTypes := #[25] }, type := 50, pos := "law.go:78", after := #[{ on := 4, ground := Ground.data }, { on := 3, ground := Ground.chain }, { on := 3, ground := Ground.guard }], guard := some (3, true) }) (v := undef) rfl (by kernel_rfl) (by kernel_rfl) (by kernel_rfl) (fun _ _ _ h => h) (Or.inr ⟨by rfl, rfl⟩) (by assumption) ?_
                try simp only [Act.put, List.setIfInBounds_toArray, List.set_cons_zero, List.set_cons_succ]
                refine wpAnyH_take (i := 6) (oi := { dst := some 125, op := Op.move (Operand.tmp 8), type := 27, pos := "law.go:78", after := #[{ on := 3, ground := Ground.guard }], guard := some (3, true) }) (v := undef) rfl (by kernel_rfl) (by kernel_rfl) (by kernel_rfl) (fun _ _ _ h => h) (Or.inr ⟨by rfl, rfl⟩) (by assumption) ?_
                try simp only [Act.put, List.setIfInBounds_toArray, List.set_cons_zero, List.set_cons_succ]
                refine wpAnyH_take (i := 7) (oi := { dst := some 126, op := Op.nilCheck (Operand.tmp 125), type := 0, pos := "law.go:78", after := #[{ on := 6, ground := Ground.data }, { on := 3, ground := Ground.guard }], guard := some (3, true) }) (v := undef) rfl (by kernel_rfl) (by kernel_rfl) (by kernel_rfl) (fun _ _ _ h => h) (Or.inr ⟨by rfl, rfl⟩) (by assumption) ?_
                try simp only [Act.put, List.setIfInBounds_toArray, List.set_cons_zero, List.set_cons_succ]
                refine wpAnyH_take (i := 8) (oi := { dst := some 127, op := Op.fieldAddr 30 (Operand.tmp 126) 0, type := 0, pos := "law.go:78", after := #[{ on := 7, ground := Ground.data }, { on := 3, ground := Ground.guard }], guard := some (3, true) }) (v := undef) rfl (by kernel_rfl) (by kernel_rfl) (by kernel_rfl) (fun _ _ _ h => h) (Or.inr ⟨by rfl, rfl⟩) (by assumption) ?_
                try simp only [Act.put, List.setIfInBounds_toArray, List.set_cons_zero, List.set_cons_succ]
                refine wpAnyH_take (i := 9) (oi := { dst := some 128, op := Op.load 28 (Operand.tmp 127), type := 28, pos := "law.go:78", after := #[{ on := 8, ground := Ground.data }, { on := 3, ground := Ground.guard }], guard := some (3, true) }) (v := undef) rfl (by kernel_rfl) (by kernel_rfl) (by kernel_rfl) (fun _ _ _ h => h) (Or.inr ⟨by rfl, rfl⟩) (by assumption) ?_
                try simp only [Act.put, List.setIfInBounds_toArray, List.set_cons_zero, List.set_cons_succ]
                refine wpAnyH_take (i := 10) (oi := { dst := some 129, op := Op.call { callee := Callee.value (Operand.func 19), args := #[Operand.tmp 124, Operand.tmp 128], argTypes := #[50, 28] }, type := 4, pos := "law.go:78", after := #[{ on := 5, ground := Ground.data }, { on := 9, ground := Ground.data }, { on := 5, ground := Ground.chain }, { on := 3, ground := Ground.guard }], guard := some (3, true) }) (v := undef) rfl (by kernel_rfl) (by kernel_rfl) (by kernel_rfl) (fun _ _ _ h => h) (Or.inr ⟨by rfl, rfl⟩) (by assumption) ?_
                try simp only [Act.put, List.setIfInBounds_toArray, List.set_cons_zero, List.set_cons_succ]
                refine wpAnyH_take (i := 11) (oi := { dst := some 130, op := Op.unOp UnOp.not 4 (Operand.tmp 129), type := 4, pos := "law.go:78", after := #[{ on := 10, ground := Ground.data }, { on := 3, ground := Ground.guard }], guard := some (3, true) }) (v := undef) rfl (by kernel_rfl) (by kernel_rfl) (by kernel_rfl) (fun _ _ _ h => h) (Or.inr ⟨by rfl, rfl⟩) (by assumption) ?_
                try simp only [Act.put, List.setIfInBounds_toArray, List.set_cons_zero, List.set_cons_succ]
                refine wpAnyH_take (i := 12) (oi := { dst := some 131, op := Op.pick (Operand.tmp 122) (Operand.tmp 130) (Operand.const (Value.bool false)), type := 4, pos := "law.go:78", after := #[{ on := 3, ground := Ground.data }, { on := 11, ground := Ground.data }], guard := none }) (v := ?_) rfl (by kernel_rfl) (by kernel_rfl) (by kernel_rfl) (fun _ _ _ h => h) (Or.inl ⟨by rfl, ?_⟩) (by assumption) ?_
                rotate_left
                focus (intro w' hSw; (try dsimp only at hSw); go_simp; try with_reducible rfl)
                try simp only [Act.put, List.setIfInBounds_toArray, List.set_cons_zero, List.set_cons_succ]
                refine wpAnyH_done (by kernel_rfl) ?_ _
                go_wp2_with fail
                go_roundw
                case rel => exact ⟨i + 1, by omega, by omega, by go_num, Lib.hid ⟨M, HP5.out, HM.out, HMK.out⟩⟩
                case measure => simp [intOf]; omega
          · have e0 : (d.1 == 0) = false := by simpa using hk0
            have e1 : (d.1 == 1) = false := by simpa using hk1
            clear hk0 hk1 ez
            obtain ⟨M, eM⟩ : ∃ M, M = L := ⟨_, rfl⟩
            have hM : M.length ≤ i + 1 := by rw [eM]; omega
            have HMK := Lib.hid (show ∀ e ∈ M, e.1 ≤ 18446744073709551615 by rw [eM]; exact HK.out)
            have HP := Lib.hid (show TwR wa x M y M (Dz wr.heap.size d) (wr.alloc (.cells #[.int .u8 d.1, .int .u64 d.2.1, .int .u64 d.2.2] 32)) by rw [eM]; exact HZ.out)
            clear eM
            have hi301 : M.length ≤ 301 := by omega
            obtain ⟨zc0, zc1, zc2⟩ := Dz.cells HP.out.r
            have HM := Lib.hid hM
            clear hM
            go_wp2_with fail
            refine (twr_get HP.out d.2.1 (by omega)).mono ?_
            rintro e wc ⟨⟨u, ok, rfl, g1⟩, hp1⟩
            have HP1 := Lib.hid hp1
            have G1 := Lib.hid g1
            obtain ⟨yc0, yc1, yc2⟩ := Dz.cells hp1.r
            clear hp1 g1 zc0 zc1 zc2
            go_wp2_with fail
            refine (twr_rget HP1.out d.2.1 (by omega)).mono ?_
            rintro e _ ⟨⟨u', ok', rfl, g2⟩, rfl⟩
            obtain ⟨eu, eok⟩ := GetS.one HP1.out.tw.up G1.out g2
            subst eu eok
            clear g2
            go_wp2_with fail
            refine (twr_next HP1.out fr (by omega)).mono ?_
            rintro e we ⟨⟨t, okn, rfl, n1⟩, hp2, _⟩
            have N1 := Lib.hid n1
            have HP2 := Lib.hid (hp2.below ((Below.refl we.heap.size we).alloc (Nat.le_refl _) (.cells #[.int .u64 t.1, .int .u64 t.2] 42)))
            clear n1 hp2 yc0 yc1 yc2
            go_wp2_with fail
            refine (twr_rnext HP2.out fr (by omega) HMK.out).mono ?_
            rintro e wf ⟨⟨t', okn', rfl, n2⟩, hp3, hbf⟩
            obtain ⟨et, eokn⟩ := NextS.one N1.out n2
            subst et eokn
            have hq0 : wf.heap[we.heap.size]? = some (.cells #[.int .u64 t'.1, .int .u64 t'.2] 42 (0, 0)) := (hbf.block _ (by simp)).trans (heap_alloc_new we _)
            have hq1 := Array.getElem?_eq_some_iff.1 hq0
            have HP3 := Lib.hid (hp3.below ((Below.refl wf.heap.size wf).alloc (Nat.le_refl _) (.cells #[.int .u64 t'.1, .int .u64 t'.2] 45)))
            have v1 : (wf.alloc (.cells #[.int .u64 t'.1, .int .u64 t'.2] 45)).cell? ⟨we.heap.size, 0, none⟩ = some (.int .u64 t'.1) := by rw [World.cell?_alloc_lt wf _ ⟨we.heap.size, 0, none⟩ hq1.1]; simp [World.cell?, hq0]
            have v2 : (wf.alloc (.cells #[.int .u64 t'.1, .int .u64 t'.2] 45)).cell? ⟨we.heap.size, 1, none⟩ = some (.int .u64 t'.2) := by rw [World.cell?_alloc_lt wf _ ⟨we.heap.size, 1, none⟩ hq1.1]; simp [World.cell?, hq0]
            have v3 : (wf.alloc (.cells #[.int .u64 t'.1, .int .u64 t'.2] 45)).cell? ⟨wf.heap.size, 0, none⟩ = some (.int .u64 t'.1) := by rw [World.cell?_alloc_new]; rfl
            have v4 : (wf.alloc (.cells #[.int .u64 t'.1, .int .u64 t'.2] 45)).cell? ⟨wf.heap.size, 1, none⟩ = some (.int .u64 t'.2) := by rw [World.cell?_alloc_new]; rfl
            obtain ⟨bo, cb, r1, r2, r3⟩ := HP3.out.tw.row
            have hneq := run_neq45 t'.1 t'.2 t'.1 t'.2
            have hqq : (!(t'.1 == t'.1 && t'.2 == t'.2)) = false := by simp
            rw [hqq] at hneq
            have HST := Lib.hid HP3.out.tw.one
            have bb1 : (u' != u') = false := by simp
            have bb2 : (ok' != ok') = false := by simp
            have bb3 : (okn' != okn') = false := by simp
            have bb4 : ((M.length : Int) != (M.length : Int)) = false := by simp
            clear hp3 hbf hq0 hq1 hqq n2 r2
            go_wp2_with fail
            go_quiet ((go_at_call 18; (first | exact Calls.quiet_of_same ((st_len HST.out).mono fun _ _ h => ⟨h.1, h.2.symm⟩) | exact Calls.quiet_of_same ((st_len (HST.out.below (Below.refl _ _).drew)).mono fun _ _ h => ⟨h.1, h.2.symm⟩) | exact Calls.quiet_of_same ((st_len (HST.out.below (Below.drewN_refl _ _))).mono fun _ _ h => ⟨h.1, h.2.symm⟩))))
            have HP4 := Lib.hid (HP3.out.tw.below (Below.drewN_refl _ nq))
            have HP5 := Lib.hid (HP4.out.below (Below.refl _ _).drew)
            have hnx : Tw wa x M y M (World.drew _) := HP5.out
            obtain ⟨bo, cb, r1, r2, r3⟩ := Tw.row hnx
            have HR2 := Lib.hid r2
            have hM9 : M.length ≤ 4096 := by omega
            have i9 : (0 : Int) ≤ (i : Int) := by omega
            clear v1 v2 v3 v4 hneq bb1 bb2 bb3 bb4 r2 hnx
            go_wp2_with fail
            by_cases h8 : (i : Int) % 8 = 7
            · have hne : ((i : Int) % 8 == 7) = true := by simpa using h8
              have hne2 : ((i : Int).tmod 8 == 7) = true := by rw [Int.tmod_eq_emod_of_nonneg (by omega)]; exact hne
              clear h8
              refine wp_region_held_drew (S := (fun w' => w'.cell? ⟨y, 0, none⟩ = some (.slice bo M.length cb))) (by kernel_rfl) r1 (fun hHeld => ?_)
              refine wpAnyH_take (i := 0) (oi := { dst := some 119, op := Op.move (Operand.tmp 9), type := 3, pos := "law.go:78", after := #[], guard := none }) (v := ?_) rfl (by kernel_rfl) (by kernel_rfl) (by kernel_rfl) (fun _ _ _ h => h) (Or.inl ⟨by rfl, ?_⟩) (by assumption) ?_
              rotate_left
              focus (intro w' hSw; (try dsimp only at hSw); go_simp; try with_reducible rfl)
              try simp only [Act.put, List.setIfInBounds_toArray, List.set_cons_zero, List.set_cons_succ]
              refine wpAnyH_take (i := 1) (oi := { dst := some 120, op := Op.binOp BinOp.rem 3 (Operand.tmp 119) (Operand.const (Value.int IntKind.i64 8)) 3, type := 3, pos := "law.go:78", after := #[{ on := 0, ground := Ground.data }], guard := none }) (v := ?_) rfl (by kernel_rfl) (by kernel_rfl) (by kernel_rfl) (fun _ _ _ h => h) (Or.inl ⟨by rfl, ?_⟩) (by assumption) ?_
              rotate_left
              focus (intro w' hSw; (try dsimp only at hSw); go_simp; try with_reducible rfl)
              try simp only [Act.put, List.setIfInBounds_toArray, List.set_cons_zero, List.set_cons_succ]
              refine wpAnyH_take (i := 2) (oi := { dst := some 121, op := Op.binOp BinOp.eql 3 (Operand.tmp 120) (Operand.const (Value.int IntKind.i64 7)) 3, type := 4, pos := "law.go:78", after := #[{ on := 1, ground := Ground.data }], guard := none }) (v := ?_) rfl (by kernel_rfl) (by kernel_rfl) (by kernel_rfl) (fun _ _ _ h => h) (Or.inl ⟨by rfl, ?_⟩) (by assumption) ?_
              rotate_left
              focus (intro w' hSw; (try dsimp only at hSw); go_simp; try with_reducible rfl)
              try simp only [Act.put, List.setIfInBounds_toArray, List.set_cons_zero, List.set_cons_succ]
              refine wpAnyH_take (i := 3) (oi := { dst := some 122, op := Op.move (Operand.tmp 121), type := 4, pos := "law.go:78", after := #[{ on := 2, ground := Ground.data }], guard := none }) (v := ?_) rfl (by kernel_rfl) (by kernel_rfl) (by kernel_rfl) (fun _ _ _ h => h) (Or.inl ⟨by rfl, ?_⟩) (by assumption) ?_
              rotate_left
              focus (intro w' hSw; (try dsimp only at hSw); go_simp; try with_reducible rfl)
              try simp only [Act.put, List.setIfInBounds_toArray, List.set_cons_zero, List.set_cons_succ]
              refine wpAnyH_take (i := 4) (oi := { dst := some 123, op := Op.move (Operand.tmp 7), type := 25, pos := "law.go:78", after := #[{ on := 3, ground := Ground.guard }], guard := some (3, true) }) (v := ?_) rfl (by kernel_rfl) (by kernel_rfl) (by kernel_rfl) (fun _ _ _ h => h) (Or.inl ⟨by rfl, ?_⟩) (by assumption) ?_
              rotate_left
              focus (intro w' hSw; (try dsimp only at hSw); go_simp; try with_reducible rfl)
              try simp only [Act.put, List.setIfInBounds_toArray, List.set_cons_zero, List.set_cons_succ]
              refine wpAnyH_take (i := 6) (oi := { dst := some 125, op := Op.move (Operand.tmp 8), type := 27, pos := "law.go:78", after := #[{ on := 3, ground := Ground.guard }], guard := some (3, true) }) (v := ?_) rfl (by kernel_rfl) (by kernel_rfl) (by kernel_rfl) (fun _ _ _ h => h) (Or.inl ⟨by rfl, ?_⟩) (by assumption) ?_
              rotate_left
              focus (intro w' hSw; (try dsimp only at hSw); go_simp; try with_reducible rfl)
              try simp only [Act.put, List.setIfInBounds_toArray, List.set_cons_zero, List.set_cons_succ]
              refine wpAnyH_take (i := 7) (oi := { dst := some 126, op := Op.nilCheck (Operand.tmp 125), type := 0, pos := "law.go:78", after := #[{ on := 6, ground := Ground.data }, { on := 3, ground := Ground.guard }], guard := some (3, true) }) (v := ?_) rfl (by kernel_rfl) (by kernel_rfl) (by kernel_rfl) (fun _ _ _ h => h) (Or.inl ⟨by rfl, ?_⟩) (by assumption) ?_
              rotate_left
              focus (intro w' hSw; (try dsimp only at hSw); go_simp; try with_reducible rfl)
              try simp only [Act.put, List.setIfInBounds_toArray, List.set_cons_zero, List.set_cons_succ]
              refine wpAnyH_take (i := 8) (oi := { dst := some 127, op := Op.fieldAddr 30 (Operand.tmp 126) 0, type := 0, pos := "law.go:78", after := #[{ on := 7, ground := Ground.data }, { on := 3, ground := Ground.guard }], guard := some (3, true) }) (v := ?_) rfl (by kernel_rfl) (by kernel_rfl) (by kernel_rfl) (fun _ _ _ h => h) (Or.inl ⟨by rfl, ?_⟩) (by assumption) ?_
              rotate_left
              focus (intro w' hSw; (try dsimp only at hSw); go_simp; try with_reducible rfl)
              try simp only [Act.put, List.setIfInBounds_toArray, List.set_cons_zero, List.set_cons_succ]
              refine wpAnyH_take (i := 9) (oi := { dst := some 128, op := Op.load 28 (Operand.tmp 127), type := 28, pos := "law.go:78", after := #[{ on := 8, ground := Ground.data }, { on := 3, ground := Ground.guard }], guard := some (3, true) }) (v := ?_) rfl (by kernel_rfl) (by kernel_rfl) (by kernel_rfl) (fun _ _ _ h => h) (Or.inl ⟨by rfl, ?_⟩) (by assumption) ?_
              rotate_left
              focus (intro w' hSw; (try dsimp only at hSw); go_simp; try with_reducible rfl)
              try simp only [Act.put, List.setIfInBounds_toArray, List.set_cons_zero, List.set_cons_succ]
              refine wpAnyH_ready (rs := [5]) (by kernel_rfl) (by simp) ?_
              refine AllReadyH.cons (o := { dst := some 124, op := Op.call { callee := Callee.value (Operand.func 20), args := #[Operand.tmp 123], argTypes := #[25] }, type := 50, pos := "law.go:78", after := #[{ on := 4, ground := Ground.data }, { on := 3, ground := Ground.chain }, { on := 3, ground := Ground.guard }], guard := some (3, true) }) rfl (fun K hK => ?_) AllReadyH.nil
              go_simp
              go_at_call 20; refine (tw_pages HP5.out hM9).mono ?_; rintro e w7 ⟨⟨X, hf, eX, ht⟩, h7, hb7⟩; obtain ⟨aoP, caP, rfl, pc⟩ := PgsCall (cb := cb) hf (by rw [eX]; exact hM9) ht (Below.refl _ _) (by rw [eX]; exact HR2.out.on hb7); rw [eX] at pc; have k1 := (hb7.cell (p := ⟨y, 0, none⟩) r3).trans r1; have PC := Lib.hid pc; have K3 := Lib.hid (And.intro h7 hb7); clear pc h7 ht hf eX
              refine hK.out _ _ k1 (fun hHeld => ?_)
              clear hK K
              try simp only [Act.put, List.setIfInBounds_toArray, List.set_cons_zero, List.set_cons_succ]
              refine wpAnyH_ready (rs := [10]) (by kernel_rfl) (by simp) ?_
              refine AllReadyH.cons (o := { dst := some 129, op := Op.call { callee := Callee.value (Operand.func 19), args := #[Operand.tmp 124, Operand.tmp 128], argTypes := #[50, 28] }, type := 4, pos := "law.go:78", after := #[{ on := 5, ground := Ground.data }, { on := 9, ground := Ground.data }, { on := 5, ground := Ground.chain }, { on := 3, ground := Ground.guard }], guard := some (3, true) }) rfl (fun K hK => ?_) AllReadyH.nil
              go_simp
              go_at_call 19; refine PC.out.mono ?_; rintro e w8 ⟨rfl, hb8⟩; have k2 := (hb8.cell (p := ⟨y, 0, none⟩) (Nat.lt_of_lt_of_le r3 K3.out.2.size)).trans k1; have K4 := Lib.hid (K3.out.1.below hb8); clear hb8
              refine hK.out _ _ k2 (fun hHeld => ?_)
              clear hK K
              try simp only [Act.put, List.setIfInBounds_toArray, List.set_cons_zero, List.set_cons_succ]
              refine wpAnyH_take (i := 11) (oi := { dst := some 130, op := Op.unOp UnOp.not 4 (Operand.tmp 129), type := 4, pos := "law.go:78", after := #[{ on := 10, ground := Ground.data }, { on := 3, ground := Ground.guard }], guard := some (3, true) }) (v := ?_) rfl (by kernel_rfl) (by kernel_rfl) (by kernel_rfl) (fun _ _ _ h => h) (Or.inl ⟨by rfl, ?_⟩) (by assumption) ?_
              rotate_left
              focus (intro w' hSw; (try dsimp only at hSw); go_simp; try with_reducible rfl)
              try simp only [Act.put, List.setIfInBounds_toArray, List.set_cons_zero, List.set_cons_succ]
              refine wpAnyH_take (i := 12) (oi := { dst := some 131, op := Op.pick (Operand.tmp 122) (Operand.tmp 130) (Operand.const (Value.bool false)), type := 4, pos := "law.go:78", after := #[{ on := 3, ground := Ground.data }, { on := 11, ground := Ground.data }], guard := none }) (v := ?_) rfl (by kernel_rfl) (by kernel_rfl) (by kernel_rfl) (fun _ _ _ h => h) (Or.inl ⟨by rfl, ?_⟩) (by assumption) ?_
              rotate_left
              focus (intro w' hSw; (try dsimp only at hSw); go_simp; try with_reducible rfl)
              try simp only [Act.put, List.setIfInBounds_toArray, List.set_cons_zero, List.set_cons_succ]
              refine wpAnyH_done (by kernel_rfl) ?_ _
              go_wp2_with fail
              go_roundw
              case rel => exact ⟨i + 1, by omega, by omega, by go_num, Lib.hid ⟨M, K4.out, HM.out, HMK.out⟩⟩
              case measure => simp [intOf]; omega
            · have hne : ((i : Int) % 8 == 7) = false := by simpa using h8
              have hne2 : ((i : Int).tmod 8 == 7) = false := by rw [Int.tmod_eq_emod_of_nonneg (by omega)]; exact hne
              clear h8
              refine wp_region_held_drew (S := (fun _ => True)) (by kernel_rfl) trivial (fun hHeld => ?_)
              refine wpAnyH_take (i := 0) (oi := { dst := some 119, op := Op.move (Operand.tmp 9), type := 3, pos := "law.go:78", after := #[], guard := none }) (v := ?_) rfl (by kernel_rfl) (by kernel_rfl) (by kernel_rfl) (fun _ _ _ h => h) (Or.inl ⟨by rfl, ?_⟩) (by assumption) ?_
              rotate_left
              focus (intro w' hSw; (try dsimp only at hSw); go_simp; try with_reducible rfl)
              try simp only [Act.put, List.setIfInBounds_toArray, List.set_cons_zero, List.set_cons_succ]
              refine wpAnyH_take (i := 1) (oi := { dst := some 120, op := Op.binOp BinOp.rem 3 (Operand.tmp 119) (Operand.const (Value.int IntKind.i64 8)) 3, type := 3, pos := "law.go:78", after := #[{ on := 0, ground := Ground.data }], guard := none }) (v := ?_) rfl (by kernel_rfl) (by kernel_rfl) (by kernel_rfl) (fun _ _ _ h => h) (Or.inl ⟨by rfl, ?_⟩) (by assumption) ?_
              rotate_left
              focus (intro w' hSw; (try dsimp only at hSw); go_simp; try with_reducible rfl)
              try simp only [Act.put, List.setIfInBounds_toArray, List.set_cons_zero, List.set_cons_succ]
              refine wpAnyH_take (i := 2) (oi := { dst := some 121, op := Op.binOp BinOp.eql 3 (Operand.tmp 120) (Operand.const (Value.int IntKind.i64 7)) 3, type := 4, pos := "law.go:78", after := #[{ on := 1, ground := Ground.data }], guard := none }) (v := ?_) rfl (by kernel_rfl) (by kernel_rfl) (by kernel_rfl) (fun _ _ _ h => h) (Or.inl ⟨by rfl, ?_⟩) (by assumption) ?_
              rotate_left
              focus (intro w' hSw; (try dsimp only at hSw); go_simp; try with_reducible rfl)
              try simp only [Act.put, List.setIfInBounds_toArray, List.set_cons_zero, List.set_cons_succ]
              refine wpAnyH_take (i := 3) (oi := { dst := some 122, op := Op.move (Operand.tmp 121), type := 4, pos := "law.go:78", after := #[{ on := 2, ground := Ground.data }], guard := none }) (v := ?_) rfl (by kernel_rfl) (by kernel_rfl) (by kernel_rfl) (fun _ _ _ h => h) (Or.inl ⟨by rfl, ?_⟩) (by assumption) ?_
              rotate_left
              focus (intro w' hSw; (try dsimp only at hSw); go_simp; try with_reducible rfl)
              try simp only [Act.put, List.setIfInBounds_toArray, List.set_cons_zero, List.set_cons_succ]
              refine wpAnyH_take (i := 4) (oi := { dst := some 123, op := Op.move (Operand.tmp 7), type := 25, pos := "law.go:78", after := #[{ on := 3, ground := Ground.guard }], guard := some (3, true) }) (v := undef) rfl (by kernel_rfl) (by kernel_rfl) (by kernel_rfl) (fun _ _ _ h => h) (Or.inr ⟨by rfl, rfl⟩) (by assumption) ?_
              try simp only [Act.put, List.setIfInBounds_toArray, List.set_cons_zero, List.set_cons_succ]
              refine wpAnyH_take (i := 5) (oi := { dst := some 124, op := Op.call { callee := Callee.value (Operand.func 20), args := #[Operand.tmp 123], argTypes := #[25] }, type := 50, pos := "law.go:78", after := #[{ on := 4, ground := Ground.data }, { on := 3, ground := Ground.chain }, { on := 3, ground := Ground.guard }], guard := some (3, true) }) (v := undef) rfl (by kernel_rfl) (by kernel_rfl) (by kernel_rfl) (fun _ _ _ h => h) (Or.inr ⟨by rfl, rfl⟩) (by assumption) ?_
              try simp only [Act.put, List.setIfInBounds_toArray, List.set_cons_zero, List.set_cons_succ]
              refine wpAnyH_take (i := 6) (oi := { dst := some 125, op := Op.move (Operand.tmp 8), type := 27, pos := "law.go:78", after := #[{ on := 3, ground := Ground.guard }], guard := some (3, true) }) (v := undef) rfl (by kernel_rfl) (by kernel_rfl) (by kernel_rfl) (fun _ _ _ h => h) (Or.inr ⟨by rfl, rfl⟩) (by assumption) ?_
              try simp only [Act.put, List.setIfInBounds_toArray, List.set_cons_zero, List.set_cons_succ]
              refine wpAnyH_take (i := 7) (oi := { dst := some 126, op := Op.nilCheck (Operand.tmp 125), type := 0, pos := "law.go:78", after := #[{ on := 6, ground := Ground.data }, { on := 3, ground := Ground.guard }], guard := some (3, true) }) (v := undef) rfl (by kernel_rfl) (by kernel_rfl) (by kernel_rfl) (fun _ _ _ h => h) (Or.inr ⟨by rfl, rfl⟩) (by assumption) ?_
              try simp only [Act.put, List.setIfInBounds_toArray, List.set_cons_zero, List.set_cons_succ]
              refine wpAnyH_take (i := 8) (oi := { dst := some 127, op := Op.fieldAddr 30 (Operand.tmp 126) 0, type := 0, pos := "law.go:78", after := #[{ on := 7, ground := Ground.data }, { on := 3, ground := Ground.guard }], guard := some (3, true) }) (v := undef) rfl (by kernel_rfl) (by kernel_rfl) (by kernel_rfl) (fun _ _ _ h => h) (Or.inr ⟨by rfl, rfl⟩) (by assumption) ?_
              try simp only [Act.put, List.setIfInBounds_toArray, List.set_cons_zero, List.set_cons_succ]
              refine wpAnyH_take (i := 9) (oi := { dst := some 128, op := Op.load 28 (Operand.tmp 127), type := 28, pos := "law.go:78", after := #[{ on := 8, ground := Ground.data }, { on := 3, ground := Ground.guard }], guard := some (3, true) }) (v := undef) rfl (by kernel_rfl) (by kernel_rfl) (by kernel_rfl) (fun _ _ _ h => h) (Or.inr ⟨by rfl, rfl⟩) (by assumption) ?_
              try simp only [Act.put, List.setIfInBounds_toArray, List.set_cons_zero, List.set_cons_succ]
              refine wpAnyH_take (i := 10) (oi := { dst := some 129, op := Op.call { callee := Callee.value (Operand.func 19), args := #[Operand.tmp 124, Operand.tmp 128], argTypes := #[50, 28] }, type := 4, pos := "law.go:78", after := #[{ on := 5, ground := Ground.data }, { on := 9, ground := Ground.data }, { on := 5, ground := Ground.chain }, { on := 3, ground := Ground.guard }], guard := some (3, true) }) (v := undef) rfl (by kernel_rfl) (by kernel_rfl) (by kernel_rfl) (fun _ _ _ h => h) (Or.inr ⟨by rfl, rfl⟩) (by assumption) ?_
              try simp only [Act.put, List.setIfInBounds_toArray, List.set_cons_zero, List.set_cons_succ]
              refine wpAnyH_take (i := 11) (oi := { dst := some 130, op := Op.unOp UnOp.not 4 (Operand.tmp 129), type := 4, pos := "law.go:78", after := #[{ on := 10, ground := Ground.data }, { on := 3, ground := Ground.guard }], guard := some (3, true) }) (v := undef) rfl (by kernel_rfl) (by kernel_rfl) (by kernel_rfl) (fun _ _ _ h => h) (Or.inr ⟨by rfl, rfl⟩) (by assumption) ?_
              try simp only [Act.put, List.setIfInBounds_toArray, List.set_cons_zero, List.set_cons_succ]
              refine wpAnyH_take (i := 12) (oi := { dst := some 131, op := Op.pick (Operand.tmp 122) (Operand.tmp 130) (Operand.const (Value.bool false)), type := 4, pos := "law.go:78", after := #[{ on := 3, ground := Ground.data }, { on := 11, ground := Ground.data }], guard := none }) (v := ?_) rfl (by kernel_rfl) (by kernel_rfl) (by kernel_rfl) (fun _ _ _ h => h) (Or.inl ⟨by rfl, ?_⟩) (by assumption) ?_
              rotate_left
              focus (intro w' hSw; (try dsimp only at hSw); go_simp; try with_reducible rfl)
              try simp only [Act.put, List.setIfInBounds_toArray, List.set_cons_zero, List.set_cons_succ]
              refine wpAnyH_done (by kernel_rfl) ?_ _
              go_wp2_with fail
              go_roundw
              case rel => exact ⟨i + 1, by omega, by omega, by go_num, Lib.hid ⟨M, HP5.out, HM.out, HMK.out⟩⟩
              case measure => simp [intOf]; omega
    · obtain rfl : i = N := by omega
      obtain ⟨L, hL, hl, _⟩ := I.out
      have HT := Lib.hid hL
      clear hL I
      generalize wr = wb at *
      go_wp2_with fail
      have hl4 : L.length ≤ 4096 := by omega
      refine (tw_range HT.out fr tu hl4).mono ?_
      rintro e w5 ⟨⟨al, cl, rfl, hl5⟩, hb5⟩
      have HT5 := Lib.hid (HT.out.below hb5)
      have HL5 := Lib.hid (And.intro hl5 hb5)
      clear hl5 hb5
      go_wp2_with fail
      refine (tw_pages HT5.out hl4).mono ?_
      rintro e w6 ⟨⟨X, hf, eX, ap, cp, Y, rfl, hp, hY, hP⟩, h6, hb6⟩
      have HP6 := Lib.hid (And.intro hf (And.intro eX (And.intro hp (And.intro hY (And.intro hP (And.intro h6 hb6))))))
      have HW := Lib.hid (pw_mk HT.out HL5.out.2 hb6 HL5.out.1 hf hY hp hP)
      have hXl : X.length ≤ 4096 := by have := cont_len hf; rw [eX] at this; omega
      clear hf eX hp hY hP h6 hb6
      go_wp2_with fail
      refine (tw_rrange HP6.out.2.2.2.2.2.1 fr tu hl4).mono ?_
      rintro e w7 ⟨am, cm7, rfl, hcm, hm, hb7⟩
      have hMl := range_len L fr tu
      have HS := Lib.hid (same_true (ca := cl) (cb := cm7) (((rl_own HL5.out.1 rfl).on HP6.out.2.2.2.2.2.2).on hb7) hm (by omega))
      obtain ⟨n, en⟩ : ∃ n, (rangeL L fr tu).length = n := ⟨_, rfl⟩
      rw [en] at HS HW hcm hMl ⊢
      have HB7 := Lib.hid hb7
      clear hb7 hm en
      go_wp2_with fail
      refine HS.out.mono ?_
      rintro e w8 ⟨rfl, hb8⟩
      have HB8 := Lib.hid (HB7.out.trans (hb8.mono HB7.out.size))
      clear hb8
      have hT8 := HP6.out.2.2.2.2.2.1.below HB8.out
      obtain ⟨bo, cb, r1, r2, r3⟩ := hT8.row
      have hpc := paged_true (cb := cb) HP6.out.1 HP6.out.2.2.2.1 (own_on HP6.out.2.2.1 (fun g e => HB8.out.block g (World.ownsRow.lt HP6.out.2.2.1 g e).2)) (fun t ht => (HP6.out.2.2.2.2.1 t ht).1.on (HB8.out.block _ (HP6.out.2.2.2.2.1 t ht).1.lt)) (by rw [HP6.out.2.1]; exact r2) (by rw [HP6.out.2.1]; exact hl4)
      rw [HP6.out.2.1] at hpc
      have HPC := Lib.hid hpc
      clear hpc hT8 r2
      go_wp2_with fail
      refine HPC.out.mono ?_
      rintro e w9 ⟨rfl, hb9⟩
      have HW9 := Lib.hid ((HW.out.below HB8.out).below hb9)
      have HYl := Lib.hid (fit_map HP6.out.1 HP6.out.2.2.2.1)
      obtain ⟨NP, eNP⟩ : ∃ NP, X.length = NP := ⟨_, rfl⟩
      rw [eNP] at HYl hXl ⊢
      clear hb9 r1 r3 eNP
      go_wp2_with fail
      go_loopw [157] (fun u157 wr => ∃ i : Nat, i ≤ n ∧ u157 = .int .i64 i ∧ Hid (PW wa x y L wb.heap.size al n ap Y wr)) (fun u157 _ => n - (intOf u157).toNat)
      case atStart => exact ⟨0, Nat.zero_le _, rfl, HW9⟩
      case round =>
        obtain ⟨j, hj, rfl, J⟩ := hrel
        by_cases hjl : j < n
        · obtain ⟨gl, rfl, hgB, ho⟩ := J.out.li (by omega)
          obtain ⟨⟨v, c1⟩, f1⟩ := ho.cell hjl
          have ij : (j : Int) < (n : Int) := by omega
          have HO := Lib.hid (And.intro hgB ho)
          clear hgB ho
          go_wp2_with fail
          go_roundw
          case rel => exact ⟨j + 1, by omega, by go_num, Lib.hid (J.out.set HO.out.2 HO.out.1 j _)⟩
          case measure => simp [intOf]; omega
        · obtain rfl : j = n := by omega
          go_wp2_with fail
          go_loopw [171] (fun u171 wr => ∃ i : Nat, i ≤ NP ∧ u171 = .int .i64 i ∧ Hid (PW wa x y L wb.heap.size al j ap Y wr)) (fun u171 _ => NP - (intOf u171).toNat)
          case atStart => exact ⟨0, Nat.zero_le _, rfl, J⟩
          case round =>
            obtain ⟨m, hm, rfl, J2⟩ := hrel
            by_cases hml : m < NP
            · have ht := getD_at Y m default (by have := HYl.out.1; omega)
              obtain ⟨t, et⟩ : ∃ t, t = Y.getD m default := ⟨_, rfl⟩
              rw [← et] at ht
              obtain ⟨gp, rfl, c0⟩ := J2.out.rcell ht
              obtain ⟨hgB, h0, ho⟩ := J2.out.pg t (List.mem_of_getElem? ht)
              obtain ⟨⟨v, c1⟩, f1⟩ := ho.cell (j := 0) (by omega)
              have im : (m : Int) < (NP : Int) := by omega
              have i0 : (0 : Int) < (t.P.length : Int) := by omega
              have HO := Lib.hid (And.intro hgB ho)
              simp only [Nat.zero_mul, Nat.zero_add] at c1 f1
              unfold pv at c0
              clear hgB ho h0 et ht
              go_wp2_with fail
              go_roundw
              case rel => exact ⟨m + 1, by omega, by go_num, Lib.hid (J2.out.set HO.out.2 HO.out.1 0 _)⟩
              case measure => simp [intOf]; omega
            · obtain rfl : m = NP := by omega
              have HTl := Lib.hid J2.out.tw.tw
              obtain ⟨bo2, cb2, r1, r2, r3⟩ := HTl.out.row
              have HR2 := Lib.hid r2
              clear r2 J2
              generalize wr = wy at *
              go_upto_region 37 with fail
              have hbd : Below wy.heap.size wy wy.drew := (Below.refl _ _).drew
              have hB0 := Lib.hid (And.intro (HTl.out.below hbd) (HR2.out.on hbd))
              clear hbd
              go_region_held3 (fun w' => w'.cell? ⟨y, 0, none⟩ = some (.slice bo2 L.length cb2))
                (first | exact r1 | exact k1 | exact k2)
                (first
                  | (have hh := K1; clear hh; go_at_call 19; refine PC.out.mono ?_; rintro e wq ⟨rfl, hbq⟩; have k2 := (hbq.cell (p := ⟨y, 0, none⟩) (Nat.lt_of_lt_of_le r3 K1.out.2.size)).trans k1; have K2 := Lib.hid (K1.out.1.below hbq); clear hbq)
                  | (go_at_call 20; refine (tw_pages hB0.out.1 hl4).mono ?_; rintro e wp ⟨⟨X2, hf2, eX2, ht2⟩, hp5, hbp⟩; obtain ⟨aoP, caP, rfl, pc⟩ := PgsCall (cb := cb2) hf2 (by rw [eX2]; exact hl4) ht2 (Below.refl _ _) (by rw [eX2]; exact hB0.out.2.on hbp); rw [eX2] at pc; have k1 := (hbp.cell (p := ⟨y, 0, none⟩) r3).trans r1; have PC := Lib.hid pc; have K1 := Lib.hid (And.intro hp5 hbp); clear pc hp5 hbp ht2 hf2 eX2))
              go_wp2_with fail
              go_ret
              exact ⟨rfl, HB.out.trans (K2.out.ahead.mono HB.out.size)⟩
end Go.Proofs.Ythjcohaldjfniaa.Ix
