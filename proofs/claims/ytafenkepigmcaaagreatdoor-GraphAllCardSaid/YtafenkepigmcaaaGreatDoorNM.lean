/- graph: Do, walked. -/
import Derived.Test.YtafenkepigmcaaaGreatDoorNH
namespace Go.Proofs.YtafenkepigmcaaaGreatDoor.Gr
open Go Go.RowKit YtafenkepigmcaaaGreatDoor.So
theorem Asked.fin {w w1 w2 : World} {F : Nat → Prop} {n g zb : Nat} {G : GV} {a : An} {vv lv : Value} {cs : Array Value} (hw : Below w.heap.size w w1) (hz : w.heap.size ≤ zb) (hz1 : zb < w1.heap.size) (hF : ∀ k, F k → k < w.heap.size) (hbox : w2.heap[zb]? = some (.cells cs 39 (0, 0))) (h : Asked w1 F n g G a vv lv w2) (u0 u1 u2 u3 : Value) :
    Asked w F n g G a vv lv ((((w2.setCell ⟨zb, 0, none⟩ u0).setCell ⟨zb, 1, none⟩ u1).setCell ⟨zb, 2, none⟩ u2).setCell ⟨zb, 3, none⟩ u3) := by
  have t4 := four_turned w2 zb u0 u1 u2 u3
  obtain ⟨F', g1, g2, g3, g4⟩ := h.gr
  have hzF' : ∀ k, F' k → k ≠ zb := fun k hk e => by
    rcases g2 k hk with q | q
    · have := hF _ q; omega
    · omega
  have hs := hw.size
  refine ⟨⟨F', g1.turned t4 hzF', fun k hk => ?_, g3, g4⟩, ?_, row_base (row_turned h.vals t4 (fun g hg e => far_row hbox (by decide) h.vals (by rw [hg, e]))) hs, row_base (row_turned h.list t4 (fun g hg e => far_row hbox (by decide) h.list (by rw [hg, e]))) hs⟩
  · rcases g2 k hk with q | q
    · exact .inl q
    · exact .inr (by omega)
  · exact ((turned_low hw).then h.tur).trans t4 (fun k hk => .inr (by omega))
theorem Asked.tx {w w' : World} {F : Nat → Prop} {n m g : Nat} {G : GV} {vals : List Av} {vv : Value} {e at_ : Int} (h : RunAt w F n g G vals vv w') (hm : n ≤ m) : Asked w F m g G ⟨e, at_, vals, []⟩ vv (.slice none 0 0) w' := by
  obtain ⟨F', g1, g2, g3⟩ := h.gr
  exact ⟨⟨F', g1.mono hm, g2, g3, fun b hb => by simp [Value.ownBlock] at hb⟩, h.tur, h.row, World.ownsRow_nil _ _ _ _⟩
theorem Asked.back {w w' : World} {F : Nat → Prop} {n m g : Nat} {G : GV} {e at_ : Int} (h : Done w F n g G w') (hm : n ≤ m) : Asked w F m g G ⟨e, at_, [], []⟩ (.slice none 0 0) (.slice none 0 0) w' := by
  obtain ⟨F', g1, g2, g3⟩ := h
  exact ⟨⟨F', g1.mono hm, g2, fun b hb => by simp [Value.ownBlock] at hb, fun b hb => by simp [Value.ownBlock] at hb⟩, g3, World.ownsRow_nil _ _ _ _, World.ownsRow_nil _ _ _ _⟩
theorem Asked.hops {w w' : World} {F : Nat → Prop} {n g : Nat} {G : GV} {e at_ : Int} {lv : Value} {ss : List Int} (h : Gp w n F g G) (hb : Below w.heap.size w w') (hr : w'.ownsRow w.heap.size 23 1 lv ss.length (KA.u32s ss)) : Asked w F n g G ⟨e, at_, [], ss⟩ (.slice none 0 0) lv w' :=
  ⟨⟨F, h.below hb, fun k hk => .inl hk, fun b hb => by simp [Value.ownBlock] at hb, fun b hb' hf => by have := gp_lt h b hf; have := (row_lt hr hb').1; omega⟩, turned_low hb, World.ownsRow_nil _ _ _ _, hr⟩
theorem Asked.mono {w w' : World} {F : Nat → Prop} {n m g : Nat} {G : GV} {a : An} {vv lv : Value} (h : Asked w F n g G a vv lv w') (hm : n ≤ m) : Asked w F m g G a vv lv w' := by
  obtain ⟨F', g1, g2, g3, g4⟩ := h.gr
  exact ⟨⟨F', g1.mono hm, g2, g3, g4⟩, h.tur, h.vals, h.list⟩
theorem bq {w : World} {z : Nat} {c0 c1 c2 c3 c4 : Value} {t : TypeId} (h : w.heap[z]? = some (.cells #[c0, c1, c2, c3, c4] t (0, 0))) : w.cell? ⟨z, 0, none⟩ = some c0 ∧ w.cell? ⟨z, 1, none⟩ = some c1 ∧ w.cell? ⟨z, 2, none⟩ = some c2 ∧ w.cell? ⟨z, 3, none⟩ = some c3 ∧ w.cell? ⟨z, 4, none⟩ = some c4 := by
  simp [World.cell?, h]
def DoPost (w : World) (F : Nat → Prop) (n g : Nat) (G : GV) (r : Rq) (e : Ending) (w' : World) : Prop :=
  ∃ vv lv, e = .returned (.agg #[.int .i64 (ansG G r).E, .int .i64 (ansG G r).At, vv, lv]) ∧ Asked w F (n + 24) g (nextG G r) (ansG G r) vv lv w'
structure DoIn (w : World) (F : Nat → Prop) (n g : Nat) (G : GV) (r : Rq) (ao : Option Addr) : Prop where
  gp : Gp w n F g G
  n40 : 40 ≤ n
  nn : n ≤ 10000000000
  few : ∀ e ∈ G, e.2.1.length ≤ 12 ∧ e.2.2.length ≤ 40
  cl : Closed G
  rd : RdO w ao r.os
  av : ∀ ad, ao = some ad → ¬ F ad.block
  wf : ∀ o ∈ r.os, o.wf
  v32 : In32 r.V
  err : Flt.ErrT w
  f0 : ¬ F 0
set_option maxRecDepth 100000 in
set_option maxHeartbeats 4000000 in
theorem do_any (g n : Nat) (F : Nat → Prop) (G : GV) (r : Rq) (ao : Option Addr) (cap : Nat) (w : World) (h : DoIn w F n g G r ao) : Calls Tryz.prog 18 #[.pointer (some ⟨g, 0, none⟩), r.val ao cap] w (DoPost w F n g G r) := by
  have b1 := (Below.refl w.heap.size w).alloc (Nat.le_refl _) (.cells #[.int .u8 r.kd, .slice ao r.os.length cap, .int .u32 r.V, .int .i64 r.K, .int .i64 r.To] 33)
  have b2 := b1.alloc b1.size (.cells #[.int .i64 0, .int .i64 0, .slice none 0 0, .slice none 0 0] 39)
  have k1 := (heap_alloc_old (w.alloc (.cells #[.int .u8 r.kd, .slice ao r.os.length cap, .int .u32 r.V, .int .i64 r.K, .int .i64 r.To] 33)) (.cells #[.int .i64 0, .int .i64 0, .slice none 0 0, .slice none 0 0] 39) (by simp)).trans (heap_alloc_new w (.cells #[.int .u8 r.kd, .slice ao r.os.length cap, .int .u32 r.V, .int .i64 r.K, .int .i64 r.To] 33))
  have k2 := heap_alloc2_new w (.cells #[.int .u8 r.kd, .slice ao r.os.length cap, .int .u32 r.V, .int .i64 r.K, .int .i64 r.To] 33) (.cells #[.int .i64 0, .int .i64 0, .slice none 0 0, .slice none 0 0] 39)
  have HC := Lib.hid (check_any r ao cap ((w.alloc (.cells #[.int .u8 r.kd, .slice ao r.os.length cap, .int .u32 r.V, .int .i64 r.K, .int .i64 r.To] 33)).alloc (.cells #[.int .i64 0, .int .i64 0, .slice none 0 0, .slice none 0 0] 39)) (h.rd.on (K := fun _ => False) (below_any b2) (fun _ _ h => h)) (fun o ho => (h.wf o ho).sz))
  have HH := Lib.hid h
  obtain ⟨kd, os, V, K, To⟩ := r
  unfold Rq.val at HC ⊢
  simp only at b1 b2 k1 k2 HC ⊢
  obtain ⟨c, hc⟩ : ∃ c, chkR ⟨kd, os, V, K, To⟩ = c := ⟨_, rfl⟩
  obtain ⟨N, hN⟩ : ∃ N, os.length = N := ⟨_, rfl⟩
  obtain ⟨z, hz⟩ : ∃ z, w.heap.size = z := ⟨_, rfl⟩
  rw [hc] at HC
  rw [hN] at b1 b2 k1 k2 HC ⊢
  obtain ⟨W, hW⟩ : ∃ W, (w.alloc (.cells #[.int .u8 kd, .slice ao N cap, .int .u32 V, .int .i64 K, .int .i64 To] 33)).alloc (.cells #[.int .i64 0, .int .i64 0, .slice none 0 0, .slice none 0 0] 39) = W := ⟨_, rfl⟩
  rw [hW] at b2 k1 k2 HC
  rw [hz] at k1 k2
  have HK := Lib.hid (And.intro b2 (And.intro k1 (And.intro k2 (And.intro hc (And.intro hN hz)))))
  obtain ⟨x0, x1, x2, x3, x4⟩ := bq k1
  clear h b1 b2 k1 k2 hc hN
  go_enter Tryz.func18, Tryz.ntmps18
  go_wp2_with fail
  clear hW hz
  refine HC.out.mono ?_
  rintro e w1 ⟨rfl, hb1⟩
  have hkz := (hb1.block z (Array.getElem?_eq_some_iff.1 HK.out.2.1).1).trans HK.out.2.1
  have hkb := (hb1.block (z + 1) (Array.getElem?_eq_some_iff.1 HK.out.2.2.1).1).trans HK.out.2.2.1
  have HBx := Lib.hid hkb
  have HKz := Lib.hid hkz
  have HZ1 := Lib.hid (show z + 1 < w1.heap.size from (Array.getElem?_eq_some_iff.1 hkb).1)
  have HB1 := Lib.hid (show Below w.heap.size w w1 from HK.out.1.trans (hb1.mono HK.out.1.size))
  obtain ⟨y0, y1, y2, y3, y4⟩ := bq hkz
  clear hb1 hkz hkb x0 x1 x2 x3 x4 HC
  by_cases hc0 : c = 0
  · subst hc0
    have hchk := HK.out.2.2.2.1
    by_cases h1 : kd = 1
    · subst h1
      obtain ⟨hl6, hok⟩ := chk_tx hchk rfl
      simp only at hl6 hok
      have HT := Lib.hid (transact_any g n F G os ao cap w1 (HH.out.gp.below HB1.out) HH.out.n40 (by have := HH.out.nn; omega) HH.out.few (HH.out.rd.on (K := fun _ => False) (below_any HB1.out) (fun _ _ h => h)) HH.out.av (fun o ho => okO_ok (hok o ho) (HH.out.wf o ho)) (fun o ho hB => okO_two (hok o ho) hB) (by omega) (Flt.ErrT.on HH.out.err HB1.out) HH.out.f0)
      rw [HK.out.2.2.2.2.1] at HT
      have HN6 := Lib.hid (show N ≤ 6 from by have := HK.out.2.2.2.2.1; omega)
      have hea : ansG G ⟨1, os, V, K, To⟩ = (match badG G os with | none => ⟨0, 0, valG G os, []⟩ | some (i, c) => ⟨c, i, [], []⟩) := by
        unfold ansG
        rw [if_neg (by rw [hchk]; simp), if_pos rfl]
        rfl
      have hen : nextG G ⟨1, os, V, K, To⟩ = (match badG G os with | none => stG G os | some _ => G) := by
        unfold nextG
        rw [if_neg (by rw [hchk]; simp), if_pos rfl]
        rfl
      have HE0 := Lib.hid (And.intro hea hen)
      clear hl6 hok hea hen hchk
      go_wp2_with fail
      refine HT.out.mono ?_
      rintro e w2 (⟨hbad, a6, c6, rfl, hrun⟩ | ⟨i, c', hbad, hi, rfl, hd⟩)
      · have hkb2 := (hrun.tur.block (z + 1) HZ1.out (fun hf => by have := gp_lt HH.out.gp _ hf; have := HK.out.2.2.2.2.2; omega)).trans HBx.out
        have HBx := Lib.hid hkb2
        have HEa := Lib.hid (show ansG G ⟨1, os, V, K, To⟩ = ⟨0, 0, valG G os, []⟩ from by rw [HE0.out.1, hbad])
        have HEn := Lib.hid (show nextG G ⟨1, os, V, K, To⟩ = stG G os from by rw [HE0.out.2, hbad])
        have HAs := Lib.hid (Asked.tx (e := 0) (at_ := 0) hrun (show n + 4 * N ≤ n + 24 by have := HN6.out; omega))
        obtain ⟨nv, hnv⟩ : ∃ nv, (valG G os).length = nv := ⟨_, rfl⟩
        rw [hnv] at HAs ⊢
        clear hbad hrun hkb2 HT HE0 hnv
        obtain ⟨p0, f0, p1, f1, p2, f2, p3, f3, hend⟩ := four (.int .i64 0) (.int .i64 0) (.slice a6 nv c6) (.slice none 0 0) HBx.out
        have HEnd := Lib.hid hend
        clear hend
        go_wp2_with fail
        refine bodyPost_ret (v := .agg #[.int .i64 0, .int .i64 0, (.slice a6 nv c6), (.slice none 0 0)]) (results_cell_row rfl _ _ (z + 1) 39 _ (0, 0) _ rfl HEnd.out Tryz.underlying39 rfl size39) rfl ?_
        refine ⟨(.slice a6 nv c6), (.slice none 0 0), by rw [HEa.out], ?_⟩
        rw [HEa.out, HEn.out]
        exact Asked.fin HB1.out (by have := HK.out.2.2.2.2.2; omega) HZ1.out (gp_lt HH.out.gp) HBx.out HAs.out _ _ _ _
      · have hkb2 : w2.heap[z + 1]? = some (.cells #[.int .i64 0, .int .i64 0, .slice none 0 0, .slice none 0 0] 39 (0, 0)) := by
          obtain ⟨_, _, _, ht⟩ := hd
          exact (ht.block (z + 1) HZ1.out (fun hf => by have := gp_lt HH.out.gp _ hf; have := HK.out.2.2.2.2.2; omega)).trans HBx.out
        have HBx := Lib.hid hkb2
        have HEa := Lib.hid (show ansG G ⟨1, os, V, K, To⟩ = ⟨c', i, [], []⟩ from by rw [HE0.out.1, hbad])
        have HEn := Lib.hid (show nextG G ⟨1, os, V, K, To⟩ = G from by rw [HE0.out.2, hbad])
        have HAs := Lib.hid (Asked.back (e := c') (at_ := i) hd (show n + 4 * N ≤ n + 24 by have := HN6.out; omega))
        clear hbad hi hd hkb2 HT HE0
        obtain ⟨p0, f0, p1, f1, p2, f2, p3, f3, hend⟩ := four (.int .i64 c') (.int .i64 i) (.slice none 0 0) (.slice none 0 0) HBx.out
        have HEnd := Lib.hid hend
        clear hend
        go_wp2_with fail
        refine bodyPost_ret (v := .agg #[.int .i64 c', .int .i64 i, (.slice none 0 0), (.slice none 0 0)]) (results_cell_row rfl _ _ (z + 1) 39 _ (0, 0) _ rfl HEnd.out Tryz.underlying39 rfl size39) rfl ?_
        refine ⟨(.slice none 0 0), (.slice none 0 0), by rw [HEa.out], ?_⟩
        rw [HEa.out, HEn.out]
        exact Asked.fin HB1.out (by have := HK.out.2.2.2.2.2; omega) HZ1.out (gp_lt HH.out.gp) HBx.out HAs.out _ _ _ _
    · have h1b : (kd == 1) = false := by simpa using h1
      have HT := Lib.hid (there_any g n F G V w1 (HH.out.gp.below HB1.out) HH.out.v32)
      have hen : nextG G ⟨kd, os, V, K, To⟩ = G := by
        unfold nextG
        rw [if_neg (by rw [hchk]; simp), if_neg h1]
      have HEn := Lib.hid hen
      have hea : ansG G ⟨kd, os, V, K, To⟩ = if (getE G V).isSome = false then ⟨6, 0, [], []⟩ else if kd = 2 then ⟨0, 0, [], withinG G V K.toNat⟩ else ⟨0, 0, [], []⟩ := by
        unfold ansG
        rw [if_neg (by rw [hchk]; simp), if_neg h1]
      have HE0 := Lib.hid hea
      clear hen hea h1
      cases hth : (getE G V).isSome
      · rw [hth] at HT
        have HEa := Lib.hid (show ansG G ⟨kd, os, V, K, To⟩ = ⟨6, 0, [], []⟩ from by rw [HE0.out, if_pos hth])
        clear hth HE0 hchk
        obtain ⟨p0, f0, p1, f1, p2, f2, p3, f3, hend⟩ := four (.int .i64 6) (.int .i64 0) (.slice none 0 0) (.slice none 0 0) HBx.out
        have HEnd := Lib.hid hend
        clear hend
        go_wp2_with fail
        refine HT.out.mono ?_
        rintro e w2 ⟨rfl, rfl⟩
        go_wp2_with fail
        refine bodyPost_ret (v := .agg #[.int .i64 6, .int .i64 0, (.slice none 0 0), (.slice none 0 0)]) (results_cell_row rfl _ _ (z + 1) 39 _ (0, 0) _ rfl HEnd.out Tryz.underlying39 rfl size39) rfl ?_
        refine ⟨(.slice none 0 0), (.slice none 0 0), by rw [HEa.out], ?_⟩
        rw [HEa.out, HEn.out]
        exact Asked.fin HB1.out (by have := HK.out.2.2.2.2.2; omega) HZ1.out (gp_lt HH.out.gp) HBx.out (Asked.still ((HH.out.gp.below HB1.out).mono (by omega)) (.refl _ _)) _ _ _ _
      · rw [hth] at HT
        by_cases h2 : kd = 2
        · subst h2
          obtain ⟨hk0, hk8⟩ := chk_hops hchk rfl
          simp only at hk0 hk8
          obtain ⟨Kn, rfl⟩ : ∃ Kn : Nat, K = Kn := ⟨K.toNat, by omega⟩
          have hgp1 := HH.out.gp.below HB1.out
          have HWi := Lib.hid (within_any g n F G V Kn w1 hgp1 (by have := HH.out.nn; omega) hth HH.out.v32 HH.out.cl (by omega))
          have HEa := Lib.hid (show ansG G ⟨2, os, V, Kn, To⟩ = ⟨0, 0, [], withinG G V Kn⟩ from by rw [HE0.out, if_neg (by rw [hth]; simp), if_pos rfl]; rfl)
          have Hth := Lib.hid hth
          clear hth HE0 hchk hk0 hk8 hgp1
          go_wp2_with fail
          refine HT.out.mono ?_
          rintro e w2 ⟨rfl, rfl⟩
          go_wp2_with fail
          refine HWi.out.mono ?_
          rintro e w3 ⟨ao3, cap3, ss, rfl, hss, hmem, hrow, hb3⟩
          have hse := within_eq HH.out.gp.rise hss hmem (Wi.there Hth.out HH.out.cl Kn)
          have hkb3 := (hb3.block (z + 1) HZ1.out).trans HBx.out
          have HBx := Lib.hid hkb3
          have HAs := Lib.hid (Asked.hops (e := 0) (at_ := 0) ((HH.out.gp.below HB1.out).mono (show n ≤ n + 24 by omega)) hb3 hrow)
          rw [hse] at HAs
          obtain ⟨nl, hnl⟩ : ∃ nl, ss.length = nl := ⟨_, rfl⟩
          rw [← hse, hnl] at HAs
          rw [hnl]
          rw [← hse] at HEa
          clear hss hmem hrow hb3 hse hkb3 HWi HT hnl
          obtain ⟨p0, f0, p1, f1, p2, f2, p3, f3, hend⟩ := four (.int .i64 0) (.int .i64 0) (.slice none 0 0) (.slice ao3 nl cap3) HBx.out
          have HEnd := Lib.hid hend
          clear hend
          go_wp2_with fail
          refine bodyPost_ret (v := .agg #[.int .i64 0, .int .i64 0, (.slice none 0 0), (.slice ao3 nl cap3)]) (results_cell_row rfl _ _ (z + 1) 39 _ (0, 0) _ rfl HEnd.out Tryz.underlying39 rfl size39) rfl ?_
          refine ⟨(.slice none 0 0), (.slice ao3 nl cap3), by rw [HEa.out], ?_⟩
          rw [HEa.out, HEn.out]
          exact Asked.fin HB1.out (by have := HK.out.2.2.2.2.2; omega) HZ1.out (gp_lt HH.out.gp) HBx.out HAs.out _ _ _ _
        · have h2b : (kd == 2) = false := by simpa using h2
          have HEa := Lib.hid (show ansG G ⟨kd, os, V, K, To⟩ = ⟨0, 0, [], []⟩ from by rw [HE0.out, if_neg (by rw [hth]; simp), if_neg h2])
          clear hth HE0 hchk h2
          obtain ⟨p0, f0, p1, f1, p2, f2, p3, f3, hend⟩ := four (.int .i64 0) (.int .i64 0) (.slice none 0 0) (.slice none 0 0) HBx.out
          have HEnd := Lib.hid hend
          clear hend
          go_wp2_with fail
          refine HT.out.mono ?_
          rintro e w2 ⟨rfl, rfl⟩
          go_wp2_with fail
          refine bodyPost_ret (v := .agg #[.int .i64 0, .int .i64 0, (.slice none 0 0), (.slice none 0 0)]) (results_cell_row rfl _ _ (z + 1) 39 _ (0, 0) _ rfl HEnd.out Tryz.underlying39 rfl size39) rfl ?_
          refine ⟨(.slice none 0 0), (.slice none 0 0), by rw [HEa.out], ?_⟩
          rw [HEa.out, HEn.out]
          exact Asked.fin HB1.out (by have := HK.out.2.2.2.2.2; omega) HZ1.out (gp_lt HH.out.gp) HBx.out (Asked.still ((HH.out.gp.below HB1.out).mono (by omega)) (.refl _ _)) _ _ _ _
  · have hcb : (c != 0) = true := by simpa using hc0
    have HEa := Lib.hid (show ansG G ⟨kd, os, V, K, To⟩ = ⟨c, 0, [], []⟩ from by unfold ansG; rw [if_pos (by rw [HK.out.2.2.2.1]; exact hc0), HK.out.2.2.2.1])
    have HEn := Lib.hid (show nextG G ⟨kd, os, V, K, To⟩ = G from by unfold nextG; rw [if_pos (by rw [HK.out.2.2.2.1]; exact hc0)])
    clear hc0
    obtain ⟨p0, f0, p1, f1, p2, f2, p3, f3, hend⟩ := four (.int .i64 c) (.int .i64 0) (.slice none 0 0) (.slice none 0 0) HBx.out
    have HEnd := Lib.hid hend
    clear hend
    go_wp2_with fail
    refine bodyPost_ret (v := .agg #[.int .i64 c, .int .i64 0, (.slice none 0 0), (.slice none 0 0)]) (results_cell_row rfl _ _ (z + 1) 39 _ (0, 0) _ rfl HEnd.out Tryz.underlying39 rfl size39) rfl ?_
    refine ⟨(.slice none 0 0), (.slice none 0 0), by rw [HEa.out], ?_⟩
    rw [HEa.out, HEn.out]
    exact Asked.fin HB1.out (by have := HK.out.2.2.2.2.2; omega) HZ1.out (gp_lt HH.out.gp) HBx.out (Asked.still ((HH.out.gp.below HB1.out).mono (by omega)) (.refl _ _)) _ _ _ _
end Go.Proofs.YtafenkepigmcaaaGreatDoor.Gr
