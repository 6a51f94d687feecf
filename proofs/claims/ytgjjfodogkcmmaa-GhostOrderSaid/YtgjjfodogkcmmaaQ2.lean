/- ghost: the law on tallies, walked. -/
import Derived.Test.YtgjjfodogkcmmaaQ1
namespace Go.Proofs.Ytgjjfodogkcmmaa.Gh
open Go Go.RowKit Ytgjjfodogkcmmaa.So Ytgjjfodogkcmmaa.Vl
/-- The vertices that came in. -/
def TaIn (w : World) (ao : Option Addr) (Vs : List Vv) : Prop :=
  ∀ i v, Vs[i]? = some v → (v.fit w ∧ v.short ∧ In32 v.id ∧ v.L.length ≤ v.hc) ∧ ∃ b off, ao = some ⟨b, off, none⟩ ∧ b < w.heap.size ∧ w.cell? ⟨b, off + i * 4, none⟩ = some (.int .u32 v.id) ∧ w.cell? ⟨b, off + i * 4 + 1, none⟩ = some (.bool v.th) ∧ w.cell? ⟨b, off + i * 4 + 2, none⟩ = some (.slice v.po v.P.length v.pc) ∧ w.cell? ⟨b, off + i * 4 + 3, none⟩ = some (.slice v.ho v.L.length v.hc)
theorem TaIn.below {w w' : World} {ao : Option Addr} {Vs : List Vv} (h : TaIn w ao Vs) (hb : Below w.heap.size w w') {i : Nat} {v : Vv} (hv : Vs[i]? = some v) : ∃ b off, ao = some ⟨b, off, none⟩ ∧ b < w'.heap.size ∧ w'.cell? ⟨b, off + i * 4, none⟩ = some (.int .u32 v.id) ∧ w'.cell? ⟨b, off + i * 4 + 1, none⟩ = some (.bool v.th) ∧ w'.cell? ⟨b, off + i * 4 + 2, none⟩ = some (.slice v.po v.P.length v.pc) ∧ w'.cell? ⟨b, off + i * 4 + 3, none⟩ = some (.slice v.ho v.L.length v.hc) := by
  obtain ⟨_, b, off, e, h1, c0, c1, c2, c3⟩ := h i v hv
  exact ⟨b, off, e, Nat.lt_of_lt_of_le h1 hb.size, (hb.cell (p := ⟨b, off + i * 4, none⟩) h1).trans c0, (hb.cell (p := ⟨b, off + i * 4 + 1, none⟩) h1).trans c1, (hb.cell (p := ⟨b, off + i * 4 + 2, none⟩) h1).trans c2, (hb.cell (p := ⟨b, off + i * 4 + 3, none⟩) h1).trans c3⟩
/-- A vertex that is kept: not too many halves. -/
structure Kept (w : World) (v : Vv) : Prop where
  fit : v.fit w
  id : In32 v.id
  few : v.L.length ≤ 40
theorem Kept.ok {w : World} {v : Vv} (h : Kept w v) : v.vx.ok w := by
  refine ⟨h.id, h.fit.kl, h.fit.ok.h, fun ad e hne => ?_⟩
  have e' : v.ho = some ad := e
  have hne' : v.L ≠ [] := hne
  obtain ⟨t, ht⟩ : ∃ t, v.L[0]? = some t := ⟨_, List.getElem?_eq_getElem (by have := List.length_pos_iff.2 hne'; omega)⟩
  obtain ⟨b, off, e2, hb, _⟩ := h.fit.ok.h 0 t ht
  rw [e'] at e2
  rw [Option.some.inj e2]
  exact hb
theorem vok_below {w w' : World} {v : Vx} (h : v.ok w) (hb : Below w.heap.size w w') : v.ok w' := h.below hb (Nat.le_refl _)
theorem box_cells {w : World} {z : Nat} {v : Vv} (h : w.heap[z]? = some (.cells #[.int .u32 v.id, .bool v.th, .slice v.po v.P.length v.pc, .slice v.ho v.L.length v.hc] 28 (0, 0))) :
    w.cell? ⟨z, 0, none⟩ = some (.int .u32 v.id) ∧ w.cell? ⟨z, 1, none⟩ = some (.bool v.th) ∧ w.cell? ⟨z, 2, none⟩ = some (.slice v.po v.P.length v.pc) ∧ w.cell? ⟨z, 3, none⟩ = some (.slice v.ho v.L.length v.hc) ∧ ∀ j, w.frozen? ⟨z, j, none⟩ = false := by
  simp [World.cell?, World.frozen?, h]
theorem info28b : (Try.prog.info? 28).map (fun i => (i.zero, i.size, i.bytes)) = some (some (.agg #[.int .u32 0, .bool false, .slice none 0 0, .slice none 0 0]), 4, 56) := by kernel_rfl
theorem info_parts3 {P : Program} {t : TypeId} {z : Value} {s b : Nat} (h : (P.info? t).map (fun i => (i.zero, i.size, i.bytes)) = some (some z, s, b)) : ∃ i, P.info? t = some i ∧ i.zero = some z ∧ i.size = s ∧ i.bytes = b := by
  obtain ⟨i, h1, h2⟩ := Option.map_eq_some_iff.1 h
  simp only [Prod.mk.injEq] at h2
  exact ⟨i, h1, h2.1, h2.2.1, h2.2.2⟩
theorem vc4_one (Vs : List Vx) : ∀ u ∈ vrow Vs, u.oneCell' = true := by
  intro u hu
  obtain ⟨t, _, hu⟩ := List.mem_flatMap.1 hu
  simp [vc4] at hu
  rcases hu with rfl | rfl | rfl | rfl <;> rfl
theorem row_form {w : World} {B T e n : Nat} {v : Value} {xs : List Value} (h : w.ownsRow B T e v n xs) : ∃ ao cap, v = .slice ao n cap ∧ n ≤ cap := by
  rcases h.2 with ⟨h0, h1⟩ | ⟨g, cap, cur, h0, _, _, h3, _⟩
  · exact ⟨none, 0, by rw [h0, h1], by omega⟩
  · exact ⟨_, cap, h0, h3⟩
theorem kept_rdv {w0 w : World} {p m N : Nat} {S : GS} {K : List Vv} {ao : Option Addr} {n cap : Nat} (h : TaM w0 p m N S K (.slice ao n cap) w) (hK : ∀ v ∈ K, Kept w0 v) : RdV w ao (K.map Vv.vx) := by
  have hr := h.row
  rw [show K.length = (K.map Vv.vx).length by simp] at hr
  exact own_rdv hr (fun v hv => by
    obtain ⟨u, hu, rfl⟩ := List.mem_map.1 hv
    exact vok_below (hK u hu).ok h.low)
/-- At the head of a round. -/
structure TaI (w0 : World) (p i : Nat) (K : List Vv) (v : Value) (w : World) : Prop where
  m : ∃ m, TaM w0 p m w.heap.size (holdAll (K.map Vv.vx)) K v w ∧ m ≤ i * 100
  len : K.length ≤ i
  kept : ∀ u ∈ K, Kept w0 u
theorem count_few {K : List Vv} (h1 : K.length ≤ 60) (h2 : ∀ v ∈ K, v.L.length ≤ 40) : (countL (K.map Vv.vx)).length ≤ 1000000 := by
  have h3 : (heldL (K.map Vv.vx)).length ≤ 60 := Nat.le_trans (hl_len _ _) (by rw [List.length_map]; exact h1)
  have h4 := fV_len (heldL (K.map Vv.vx)) (heldL (K.map Vv.vx)) [] (fun v hv => by
    obtain ⟨u, hu, rfl⟩ := List.mem_map.1 (hl_sub _ _ v hv)
    have : u.L.length ≤ 40 := h2 u hu
    show u.L.length ≤ 100
    omega)
  simp only [List.length_nil] at h4
  unfold countL cntsL
  rw [List.length_map]
  omega
set_option maxRecDepth 100000 in
set_option maxHeartbeats 4000000 in
theorem tallies_law (ao : Option Addr) (ca : Nat) (Vs : List Vv) (x : Int) (w : World) (hin : TaIn w ao Vs) (hx : In32 x) :
    Calls Try.prog 4 #[.slice ao Vs.length ca, .int .u32 x] w fun e w' => e = .returned (.bool true) ∧ Below w.heap.size w w' := by
  have HIN := Lib.hid hin
  have HXX := Lib.hid hx
  obtain ⟨n, hn⟩ : ∃ n, Vs.length = n := ⟨_, rfl⟩
  rw [hn]
  have HN := Lib.hid hn
  clear hin hx hn
  have HA := Lib.hid (awake_any w)
  go_enter Try.func4, Try.ntmps4
  go_wp2_with (go_at_call 9; refine HA.out.mono ?_; rintro e w1 ⟨rfl, hb⟩; have A1 := Lib.hid hb; clear hb)
  refine (new_any w.heap.size w1 A1.out.size).mono ?_
  rintro e w2 ⟨rfl, ht, hb⟩
  have HI : Hid (TaI w (w1.heap.size + 2) 0 [] (.slice none 0 0) w2) := Lib.hid ⟨⟨0, ⟨⟨_, ht, (fun g e => by cases e), (by obtain ⟨_, _, _, hh, _⟩ := ht; exact hh.hi)⟩, World.ownsRow_nil _ _ _ _, A1.out.trans (hb.mono A1.out.size)⟩, by omega⟩, Nat.le_refl _, (fun u hu => by cases hu)⟩
  clear ht hb HA
  generalize w1.heap.size + 2 = p at *
  go_wp2_with fail
  go_loopw [6, 19] (fun v u wr => ∃ (i : Nat) (K : List Vv), i ≤ n ∧ i ≤ 60 ∧ u = .int .i64 i ∧ Hid (TaI w p i K v wr)) (fun _ u _ => n - (intOf u).toNat)
  case atStart => exact ⟨0, _, by omega, by omega, rfl, HI⟩
  case round =>
    obtain ⟨i, K, hi, hi60, rfl, HE⟩ := hrel
    clear HI
    generalize wr = w3 at *
    obtain ⟨ao6, c6, rfl, hc6⟩ : ∃ ao6 c6, u6 = .slice ao6 K.length c6 ∧ K.length ≤ c6 := by
      obtain ⟨m, h, _⟩ := HE.out.m
      exact row_form h.row
    by_cases hlt : i < n
    · by_cases h60 : (60 : Int) ≤ (i : Int)
      · obtain ⟨u, hu⟩ : ∃ u, Vs[i]? = some u := ⟨_, List.getElem?_eq_getElem (by have := HN.out; omega)⟩
        obtain ⟨m, hm, _⟩ := HE.out.m
        have HL := Lib.hid hm.low
        obtain ⟨g, og, rfl, _, c0, c1, c2, c3⟩ := HIN.out.below hm.low hu
        have j1 : (i : Int) < (n : Int) := by omega
        clear hm hu
        go_wp2_with fail
        go_ret
        exact ⟨rfl, HL.out.alloc HL.out.size _⟩
      · obtain ⟨u, hu⟩ : ∃ u, Vs[i]? = some u := ⟨_, List.getElem?_eq_getElem (by have := HN.out; omega)⟩
        obtain ⟨m, hm, hmi⟩ := HE.out.m
        obtain ⟨g, og, rfl, _, c0, c1, c2, c3⟩ := HIN.out.below hm.low hu
        have j1 : (i : Int) < (n : Int) := by omega
        have HU := Lib.hid (HIN.out i u hu).1
        obtain ⟨k, hk⟩ : ∃ k : Nat, min u.L.length 40 = k := ⟨_, rfl⟩
        have hkl : k ≤ u.L.length := by omega
        have hk40 : k ≤ 40 := by omega
        have hkm : min (u.L.length : Int) 40 = (k : Int) := by omega
        have hmin := fun w' => run_min40 w' hkm
        have hsl := slice_first (ao := u.ho) (n := u.L.length) (c := u.hc) hkl HU.out.2.2.2
        have hlk : (u.first k).L.length = k := by show (u.L.take k).length = k; rw [List.length_take]; omega
        obtain ⟨z, hz⟩ : ∃ z, w3.heap.size = z := ⟨_, rfl⟩
        have hb4 : Below w3.heap.size w3 (w3.alloc (.cells #[.int .u32 u.id, .bool u.th, .slice u.po u.P.length u.pc, .slice u.ho k u.hc] 28)) := (Below.refl _ _).alloc (Nat.le_refl _) _
        have hbx : (w3.alloc (.cells #[.int .u32 u.id, .bool u.th, .slice u.po u.P.length u.pc, .slice u.ho k u.hc] 28)).heap[w3.heap.size]? = some (.cells #[.int .u32 u.id, .bool u.th, .slice u.po u.P.length u.pc, .slice u.ho k u.hc] 28 (0, 0)) := heap_alloc_new w3 _
        have HT := Lib.hid (hm.below hb4)
        have HM := Lib.hid (And.intro hmi (And.intro hk40 hlk))
        have HK0 := Lib.hid (And.intro HE.out.len HE.out.kept)
        clear hm hu hk hkm hmi hlk HE
        go_upto_region 10 with fail
        rw [hz] at hbx HT
        generalize (w3.alloc (.cells #[.int .u32 u.id, .bool u.th, .slice u.po u.P.length u.pc, .slice u.ho k u.hc] 28)) = w4 at *
        have hz4 := (Array.getElem?_eq_some_iff.1 hbx).1
        have HU1 : Hid ((u.first k).fit w ∧ (u.first k).short ∧ In32 u.id) := Lib.hid ⟨HU.out.1.first k, HU.out.2.1.first k, HU.out.2.2.1⟩
        clear hmin hsl c0 c1 c2 c3 hb4 HU hz
        obtain ⟨y, hy⟩ : ∃ y, u.first k = y := ⟨_, rfl⟩
        obtain ⟨e0, e1, e2, e3, e4, e5, e6⟩ : y.id = u.id ∧ y.th = u.th ∧ y.po = u.po ∧ y.P = u.P ∧ y.pc = u.pc ∧ y.ho = u.ho ∧ y.hc = u.hc := by subst hy; exact ⟨rfl, rfl, rfl, rfl, rfl, rfl, rfl⟩
        have e7 := HM.out.2.2
        rw [hy] at HU1 e7
        have hbx2 : w4.heap[z]? = some (.cells #[.int .u32 y.id, .bool y.th, .slice y.po y.P.length y.pc, .slice y.ho y.L.length y.hc] 28 (0, 0)) := by rw [e0, e1, e2, e3, e4, e5, e6, e7]; exact hbx
        have HID := Lib.hid (show In32 y.id by rw [e0]; exact HU1.out.2.2)
        clear hbx e0 e1 e2 e3 e4 e5 e6 hy
        have HM2 := Lib.hid e7
        clear e7
        obtain ⟨b0, b1, b2, b3, bf⟩ := box_cells hbx2
        have hfit4 := HU1.out.1.below HT.out.low (Nat.le_refl _)
        have HTW := Lib.hid (twin_any y w4 hfit4.ok HU1.out.2.1)
        have HF4 := Lib.hid hfit4
        have HBX := Lib.hid hbx2
        clear hfit4 hbx2
        cases hf : y.form
        · have HFO := Lib.hid hf
          clear hf
          unfold Vv.val at HTW
          go_wp2_with (first
            | (go_at_call 21; refine HTW.out.mono ?_; intro e' w5 ht; obtain ⟨t, rfl, i1, i2, i3, i4, hu, hb1, hge⟩ := ht.vv2 HF4.out; have HB5 := Lib.hid hb1; have HT5 := Lib.hid (HT.out.below hb1); have HUF := Lib.hid (show t.form = false from by rw [← HFO.out]; unfold Vv.form; rw [i1, i2, i3, i4]); have HU5 := Lib.hid hu; clear ht i1 i2 i3 i4 hu hb1 hge; unfold Vv.val)
            | (go_at_call 20; refine (HT5.out.bad HU5.out HUF.out).mono ?_; rintro e' w6 ⟨rfl, h6, hb6⟩; have HT6 := Lib.hid h6; have HB6 := Lib.hid (HB5.out.trans (hb6.mono HB5.out.size)); (have hbx6 := (HB6.out.block z (Array.getElem?_eq_some_iff.1 HBX.out).1).trans HBX.out); obtain ⟨d0, d1, d2, d3, df⟩ := box_cells hbx6; have HRT := Lib.hid (right_any y w6 (HF4.out.below HB6.out (Nat.le_refl _)).ok (by have := HU1.out.2.1.pn; omega) (by have := HU1.out.2.1.hn; omega)); clear h6 hb6 hbx6)
            | (go_at_call 22; refine HRT.out.mono ?_; unfold RRet; rw [HFO.out]; rintro e' w9 ⟨rfl, hb⟩; have HT9 := Lib.hid (HT6.out.below hb); have HM9 := Lib.hid (show m ≤ (i + 1) * 100 by have := HM.out.1; omega); have HK9 := Lib.hid (show K.length ≤ i + 1 ∧ ∀ u ∈ K, Kept w u from ⟨by have := HK0.out.1; omega, HK0.out.2⟩); have hc9 := hc6; clear hb))
          obtain ⟨L, hL⟩ : ∃ L, countL (K.map Vv.vx) = L := ⟨_, rfl⟩
          have hfew := count_few (K := K) (by have := HK9.out.1; omega) (fun v hv => (HK9.out.2 v hv).few)
          have c14 := refcount_any ao6 c6 (K.map Vv.vx) w9 (kept_rdv HT9.out HK9.out.2) (by rw [List.length_map]; have := HK9.out.1; omega) (fun v hv => by
            obtain ⟨u, hu, rfl⟩ := List.mem_map.1 hv
            have h1 : u.L.length ≤ 40 := (HK9.out.2 u hu).few
            show u.L.length ≤ 100
            omega) (by rw [List.length_map]; exact hc9)
          rw [List.length_map, hL] at c14
          rw [hL] at hfew
          have C14 := Lib.hid c14
          have H32 := Lib.hid (show ∀ v ∈ K.map Vv.vx, ∀ t ∈ v.L, In32 t.1 from fun v hv => by
            obtain ⟨u, hu, rfl⟩ := List.mem_map.1 hv
            exact (HK9.out.2 u hu).fit.kl)
          have HCL := Lib.hid hL
          obtain ⟨lg, hlg⟩ : ∃ lg, L.length = lg := ⟨_, rfl⟩
          rw [hlg] at hfew
          have HLG := Lib.hid hlg
          clear c14 hL hlg
          go_wp2_with (go_at_call 14; refine C14.out.mono ?_; rintro e' w10 ⟨v10, rfl, ho, hb⟩; obtain ⟨ao10, c10, rfl, hr10⟩ := rdg_own ho; have HR10 := Lib.hid hr10; have HB10 := Lib.hid hb; rw [HLG.out]; clear ho hb hr10)
          go_loopw [11, 61] (fun s11 s61 wx => ∃ j : Nat, j ≤ lg ∧ s11 = .int .i64 (lastN x (L.take j)) ∧ s61 = .int .i64 j ∧ Hid (Below w10.heap.size w10 wx)) (fun _ u _ => lg - (intOf u).toNat)
          case atStart => exact ⟨0, by omega, rfl, rfl, Lib.hid (Below.refl _ _)⟩
          case round =>
            obtain ⟨j, hj, rfl, rfl, HJ⟩ := hrel
            generalize wr = w11 at *
            by_cases hjl : j < lg
            · have j2 : (j : Int) < (lg : Int) := by omega
              obtain ⟨t, ht⟩ : ∃ t, L[j]? = some t := ⟨_, List.getElem?_eq_getElem (by have := HLG.out; omega)⟩
              obtain ⟨bq, oq, rfl, _, q0, q1⟩ := HR10.out.on HJ.out (Nat.le_refl _) j t ht
              have hnx := take_next ht
              have HNX := Lib.hid (show lastN x (L.take (j + 1)) = if t.1 = x then t.2 else lastN x (L.take j) by rw [hnx, lastN_snoc])
              have HB11 := Lib.hid (show Below w10.heap.size w10 (w11.alloc (.cells #[.int .u32 t.1, .int .i64 t.2] 48)) from HJ.out.alloc HJ.out.size _)
              clear hnx ht
              generalize lastN x (L.take j) = nj at *
              by_cases htx : t.1 = x
              · have hb1 : (t.1 == x) = true := by simpa using htx
                rw [if_pos htx] at HNX
                clear htx
                go_wp2_with fail
                exact ⟨⟨j + 1, by omega, by rw [HNX.out], by go_num, HB11⟩, by simp [intOf]; omega⟩
              · have hb1 : (t.1 == x) = false := by simpa using htx
                rw [if_neg htx] at HNX
                clear htx
                go_wp2_with fail
                exact ⟨⟨j + 1, by omega, by rw [HNX.out], by go_num, HB11⟩, by simp [intOf]; omega⟩
            · obtain rfl : j = lg := by omega
              have htk : L.take j = L := List.take_of_length_le (by have := HLG.out; omega)
              rw [htk]
              obtain ⟨nn, hnn⟩ : ∃ nn, lastN x L = nn := ⟨_, rfl⟩
              rw [hnn]
              have HNN := Lib.hid hnn
              have HT11 := Lib.hid ((HT9.out.below HB10.out).below HJ.out)
              have HR11 := Lib.hid (HR10.out.on HJ.out (Nat.le_refl _))
              clear htk hnn hjl
              go_wp2_with (first
                | (go_at_call 23; refine (HT11.out.list (by have := HM9.out; omega)).mono ?_; rintro e' w12 ⟨ao12, c12, ss, rfl, hnm, ho, hb⟩; have hof := lastN_of hnm HXX.out; rw [count_same hnm H32.out, HCL.out, HNN.out] at hof; rw [count_same hnm H32.out, HCL.out] at ho ⊢; obtain ⟨ao12', c12', e12, hr12⟩ := rdg_own ho; simp only [Value.slice.injEq, true_and] at e12; obtain ⟨rfl, rfl⟩ := e12; have HOF := Lib.hid hof; have HR12 := Lib.hid hr12; have HB12 := Lib.hid hb; clear hnm ho hb hof hr12)
                | (go_at_call 12; refine (ghosts_any _ _ L _ HR12.out (by have := HLG.out; omega)).mono ?_; rintro e' w13 ⟨v13, rfl, ho, hb⟩; obtain ⟨ao13, c13, rfl, hr13⟩ := rdg_own ho; rw [HLG.out]; have HR13 := Lib.hid hr13; have HB13 := Lib.hid (HB12.out.trans (hb.mono HB12.out.size)); clear ho hb hr13)
                | (go_at_call 11; rw [← HLG.out]; refine (same_any _ _ _ _ L L _ HR13.out (HR11.out.on HB13.out (Nat.le_refl _)) (by have := HLG.out; omega) (by have := HLG.out; omega)).mono ?_; rintro e' w14 ⟨rfl, hb⟩; rw [HLG.out]; simp only [decide_true]; have HB14 := Lib.hid (HB13.out.trans (hb.mono HB13.out.size)); have HT14 := Lib.hid (HT11.out.below HB14.out); clear hb)
                | (go_at_call 24; refine (HT14.out.of HXX.out).mono ?_; rw [← HOF.out]; rintro e' w15 ⟨rfl, rfl⟩))
              trace_state
              exact ⟨⟨i + 1, K, by omega, by omega, by go_num, Lib.hid ⟨⟨_, HT14.out.here, HM9.out⟩, HK9.out.1, HK9.out.2⟩⟩, by simp [intOf]; omega⟩
        · have HFO := Lib.hid hf
          clear hf
          have hrow : (rowG (holdAll (K.map Vv.vx)) y.id).length ≤ 40 := row_short (rows_short (fun v hv => by
            obtain ⟨q, hq, rfl⟩ := List.mem_map.1 hv
            exact (HK0.out.2 q hq).few)) _
          have HRW := Lib.hid hrow
          obtain ⟨i0, hi0, hz0, hz1, hz2⟩ := info_parts3 info28b
          have HI0 := Lib.hid (And.intro hi0 (And.intro hz0 (And.intro hz1 hz2)))
          clear hrow hi0 hz0 hz1 hz2
          unfold Vv.val at HTW
          go_upto_region 14 with (first
            | (go_at_call 21; refine HTW.out.mono ?_; intro e' w5 ht; obtain ⟨t, rfl, i1, i2, i3, i4, hu, hb1, hge⟩ := ht.vv2 HF4.out; have HB5 := Lib.hid hb1; have HT5 := Lib.hid (HT.out.below hb1); have HUF := Lib.hid (show t.form = true from by rw [← HFO.out]; unfold Vv.form; rw [i1, i2, i3, i4]); have HU5 := Lib.hid (And.intro hu (And.intro hge (And.intro i1 (And.intro i2 i4)))); clear ht i1 i2 i3 i4 hu hb1 hge; unfold Vv.val)
            | (go_at_call 20; refine (HT5.out.put HU5.out.1 HUF.out (by rw [HU5.out.2.2.1]; exact HID.out) (fun ad e hne => Nat.le_trans (Nat.le_of_lt hz4) (HU5.out.2.1 ad e hne)) (by rw [HU5.out.2.2.1]; have := HRW.out; omega) (by have := HM.out.1; omega)).mono ?_; rintro e' w6 ⟨rfl, h6, ht6⟩; rw [HU5.out.2.2.1, HU5.out.2.2.2.1, HU5.out.2.2.2.2, HM2.out] at h6; have HT6 := Lib.hid h6; have hbx6 := (ht6.block z (Nat.lt_of_lt_of_le hz4 HB5.out.size) (by show ¬ z < z; omega)).trans ((HB5.out.block z hz4).trans HBX.out); have hs6 := Nat.le_trans HB5.out.size ht6.size; obtain ⟨d0, d1, d2, d3, df⟩ := box_cells hbx6; have HBX6 := Lib.hid hbx6; have HRT := Lib.hid (right_any y w6 (HU1.out.1.below HT6.out.low (Nat.le_refl _)).ok (by have := HU1.out.2.1.pn; omega) (by have := HU1.out.2.1.hn; omega)); clear h6 ht6 hbx6 hs6)
            | (go_at_call 22; refine HRT.out.mono ?_; unfold RRet; rw [HFO.out]; rintro e' w7 ⟨rfl, hb⟩; have HT7 := Lib.hid (HT6.out.below hb); have hbx7 := (hb.block z (Array.getElem?_eq_some_iff.1 HBX6.out).1).trans HBX6.out; obtain ⟨f0, f1, f2, f3, ff⟩ := box_cells hbx7; clear hb hbx7))
          obtain ⟨w8, hw8⟩ : ∃ w8, w7.alloc (.cells #[.int .u32 y.id, .bool y.th, .slice y.po y.P.length y.pc, .slice y.ho y.L.length y.hc] 28) = w8 := ⟨_, rfl⟩
          have hb8 : Below w7.heap.size w7 (w7.alloc (.cells #[.int .u32 y.id, .bool y.th, .slice y.po y.P.length y.pc, .slice y.ho y.L.length y.hc] 28)) := (Below.refl _ _).alloc (Nat.le_refl _) _
          have HT8 := Lib.hid (HT7.out.below hb8)
          have HW8 := Lib.hid (show (w7.alloc (.cells #[.int .u32 y.id, .bool y.th, .slice y.po y.P.length y.pc, .slice y.ho y.L.length y.hc] 28)).heap[w7.heap.size]? = some (.cells #[.int .u32 y.id, .bool y.th, .slice y.po y.P.length y.pc, .slice y.ho y.L.length y.hc] 28 (0, 0)) from heap_alloc_new w7 _)
          clear hb8 hw8
          have hKl := HK0.out.1
          go_wp2_with (at_builtin; refine wpList_append_lies _ rfl (.tmp 53) (.tmp 55) 22 rfl w.heap.size 28 i0 _ 4 56 Try.underlying22 HI0.out.1 HI0.out.2.1 HI0.out.2.2.1 HI0.out.2.2.2 rfl (by decide) _ K.length (vrow (K.map Vv.vx)) rfl HT8.out.row ⟨w7.heap.size, 0, none⟩ 1 1 (vrow [y.vx]) rfl rfl (World.news_of_block HW8.out) (vc4_one _) (by decide) (by unfold maxLen; omega) (by omega) HT8.out.low.size _ rfl ?_; intro g9 c9 w9 hown hgrow hat hlt9; have HOWN := Lib.hid (And.intro hown (And.intro hgrow hat)); clear hown hgrow hat hlt9)
          have HT9 : Hid (TaM w p (m + (rowG (holdAll (K.map Vv.vx)) y.id).length + k + 1) w6.heap.size (holdAll ((K ++ [y]).map Vv.vx)) (K ++ [y]) (.slice (some ⟨g9, 0, none⟩) (K ++ [y]).length c9) w9) := by
            have h1 := HT8.out.grow (K' := K ++ [y]) (v' := .slice (some ⟨g9, 0, none⟩) (K ++ [y]).length c9) HOWN.out.2.1 (by rw [List.map_append, vrow_app, List.length_append]; exact HOWN.out.1) (by
              rcases HOWN.out.2.2 with h | h
              · exact .inl h
              · exact .inr (fun q e => by
                  have e2 : g9 = q := Option.some.inj e
                  have := HT8.out.row
                  rw [← e2, h]
                  simp))
            rw [List.map_append, show List.map Vv.vx [y] = [y.vx] from rfl, holdAll_snoc]
            exact Lib.hid h1
          have hc9 : (K ++ [y]).length ≤ c9 := by
            rcases HOWN.out.1.2 with ⟨h0, _⟩ | ⟨g', cap', cur, h0, _, _, h3, _⟩
            · cases h0
            · injection h0 with _ _ h0
              rw [List.length_append, h0]
              exact h3
          have HM9 := Lib.hid (show m + (rowG (holdAll (K.map Vv.vx)) y.id).length + k + 1 ≤ (i + 1) * 100 by have := HM.out; have := HRW.out; omega)
          have HK9 := Lib.hid (show (K ++ [y]).length ≤ i + 1 ∧ ∀ u ∈ K ++ [y], Kept w u from ⟨by rw [List.length_append, List.length_singleton]; omega, fun u hu => by
            rcases List.mem_append.1 hu with hu | hu
            · exact HK0.out.2 u hu
            · rw [List.mem_singleton.1 hu]
              exact ⟨HU1.out.1, HID.out, by rw [HM2.out]; exact HM.out.2.1⟩⟩)
          rw [show K.length + 1 = (K ++ [y]).length by rw [List.length_append, List.length_singleton]]
          obtain ⟨L, hL⟩ : ∃ L, countL ((K ++ [y]).map Vv.vx) = L := ⟨_, rfl⟩
          have hfew := count_few (K := (K ++ [y])) (by have := HK9.out.1; omega) (fun v hv => (HK9.out.2 v hv).few)
          have c14 := refcount_any (some ⟨g9, 0, none⟩) c9 ((K ++ [y]).map Vv.vx) w9 (kept_rdv HT9.out HK9.out.2) (by rw [List.length_map]; have := HK9.out.1; omega) (fun v hv => by
            obtain ⟨u, hu, rfl⟩ := List.mem_map.1 hv
            have h1 : u.L.length ≤ 40 := (HK9.out.2 u hu).few
            show u.L.length ≤ 100
            omega) (by rw [List.length_map]; exact hc9)
          rw [List.length_map, hL] at c14
          rw [hL] at hfew
          have C14 := Lib.hid c14
          have H32 := Lib.hid (show ∀ v ∈ (K ++ [y]).map Vv.vx, ∀ t ∈ v.L, In32 t.1 from fun v hv => by
            obtain ⟨u, hu, rfl⟩ := List.mem_map.1 hv
            exact (HK9.out.2 u hu).fit.kl)
          have HCL := Lib.hid hL
          obtain ⟨lg, hlg⟩ : ∃ lg, L.length = lg := ⟨_, rfl⟩
          rw [hlg] at hfew
          have HLG := Lib.hid hlg
          clear c14 hL hlg
          go_wp2_with (go_at_call 14; refine C14.out.mono ?_; rintro e' w10 ⟨v10, rfl, ho, hb⟩; obtain ⟨ao10, c10, rfl, hr10⟩ := rdg_own ho; have HR10 := Lib.hid hr10; have HB10 := Lib.hid hb; rw [HLG.out]; clear ho hb hr10)
          go_loopw [11, 61] (fun s11 s61 wx => ∃ j : Nat, j ≤ lg ∧ s11 = .int .i64 (lastN x (L.take j)) ∧ s61 = .int .i64 j ∧ Hid (Below w10.heap.size w10 wx)) (fun _ u _ => lg - (intOf u).toNat)
          case atStart => exact ⟨0, by omega, rfl, rfl, Lib.hid (Below.refl _ _)⟩
          case round =>
            obtain ⟨j, hj, rfl, rfl, HJ⟩ := hrel
            generalize wr = w11 at *
            by_cases hjl : j < lg
            · have j2 : (j : Int) < (lg : Int) := by omega
              obtain ⟨t, ht⟩ : ∃ t, L[j]? = some t := ⟨_, List.getElem?_eq_getElem (by have := HLG.out; omega)⟩
              obtain ⟨bq, oq, rfl, _, q0, q1⟩ := HR10.out.on HJ.out (Nat.le_refl _) j t ht
              have hnx := take_next ht
              have HNX := Lib.hid (show lastN x (L.take (j + 1)) = if t.1 = x then t.2 else lastN x (L.take j) by rw [hnx, lastN_snoc])
              have HB11 := Lib.hid (show Below w10.heap.size w10 (w11.alloc (.cells #[.int .u32 t.1, .int .i64 t.2] 48)) from HJ.out.alloc HJ.out.size _)
              clear hnx ht
              generalize lastN x (L.take j) = nj at *
              by_cases htx : t.1 = x
              · have hb1 : (t.1 == x) = true := by simpa using htx
                rw [if_pos htx] at HNX
                clear htx
                go_wp2_with fail
                exact ⟨⟨j + 1, by omega, by rw [HNX.out], by go_num, HB11⟩, by simp [intOf]; omega⟩
              · have hb1 : (t.1 == x) = false := by simpa using htx
                rw [if_neg htx] at HNX
                clear htx
                go_wp2_with fail
                exact ⟨⟨j + 1, by omega, by rw [HNX.out], by go_num, HB11⟩, by simp [intOf]; omega⟩
            · obtain rfl : j = lg := by omega
              have htk : L.take j = L := List.take_of_length_le (by have := HLG.out; omega)
              rw [htk]
              obtain ⟨nn, hnn⟩ : ∃ nn, lastN x L = nn := ⟨_, rfl⟩
              rw [hnn]
              have HNN := Lib.hid hnn
              have HT11 := Lib.hid ((HT9.out.below HB10.out).below HJ.out)
              have HR11 := Lib.hid (HR10.out.on HJ.out (Nat.le_refl _))
              clear htk hnn hjl
              go_wp2_with (first
                | (go_at_call 23; refine (HT11.out.list (by have := HM9.out; omega)).mono ?_; rintro e' w12 ⟨ao12, c12, ss, rfl, hnm, ho, hb⟩; have hof := lastN_of hnm HXX.out; rw [count_same hnm H32.out, HCL.out, HNN.out] at hof; rw [count_same hnm H32.out, HCL.out] at ho ⊢; obtain ⟨ao12', c12', e12, hr12⟩ := rdg_own ho; simp only [Value.slice.injEq, true_and] at e12; obtain ⟨rfl, rfl⟩ := e12; have HOF := Lib.hid hof; have HR12 := Lib.hid hr12; have HB12 := Lib.hid hb; clear hnm ho hb hof hr12)
                | (go_at_call 12; refine (ghosts_any _ _ L _ HR12.out (by have := HLG.out; omega)).mono ?_; rintro e' w13 ⟨v13, rfl, ho, hb⟩; obtain ⟨ao13, c13, rfl, hr13⟩ := rdg_own ho; rw [HLG.out]; have HR13 := Lib.hid hr13; have HB13 := Lib.hid (HB12.out.trans (hb.mono HB12.out.size)); clear ho hb hr13)
                | (go_at_call 11; rw [← HLG.out]; refine (same_any _ _ _ _ L L _ HR13.out (HR11.out.on HB13.out (Nat.le_refl _)) (by have := HLG.out; omega) (by have := HLG.out; omega)).mono ?_; rintro e' w14 ⟨rfl, hb⟩; rw [HLG.out]; simp only [decide_true]; have HB14 := Lib.hid (HB13.out.trans (hb.mono HB13.out.size)); have HT14 := Lib.hid (HT11.out.below HB14.out); clear hb)
                | (go_at_call 24; refine (HT14.out.of HXX.out).mono ?_; rw [← HOF.out]; rintro e' w15 ⟨rfl, rfl⟩))
              trace_state
              exact ⟨⟨i + 1, (K ++ [y]), by omega, by omega, by go_num, Lib.hid ⟨⟨_, by (have h14 := HT14.out.here); rwa [List.length_append, List.length_singleton] at h14, HM9.out⟩, HK9.out.1, HK9.out.2⟩⟩, by simp [intOf]; omega⟩
    · obtain rfl : i = n := by omega
      obtain ⟨m, hm, _⟩ := HE.out.m
      have HL := Lib.hid hm.low
      clear hm
      go_wp2_with fail
      go_ret
      exact ⟨rfl, HL.out⟩
end Go.Proofs.Ytgjjfodogkcmmaa.Gh
