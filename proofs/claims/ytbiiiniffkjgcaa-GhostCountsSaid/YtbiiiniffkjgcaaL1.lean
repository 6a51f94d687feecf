/- ghost: the law of counts, walked. -/
import Derived.Test.YtbiiiniffkjgcaaM2
import Derived.Test.YtbiiiniffkjgcaaC7
import Derived.Test.YtbiiiniffkjgcaaC9
namespace Go.Proofs.Ytbiiiniffkjgcaa.Gh
open Go Go.RowKit Ytbiiiniffkjgcaa.So Ytbiiiniffkjgcaa.Vl
structure LawIn (w : World) (ao : Option Addr) (Vs : List Vv) : Prop where
  rd : RdW w ao Vs
  vx : ∀ v ∈ Vs, v.vx.ok w
theorem LawIn.take {w : World} {ao : Option Addr} {Vs : List Vv} (h : LawIn w ao Vs) (n : Nat) : LawIn w ao (Vs.take n) :=
  ⟨fun i v hv => h.rd i v (by rw [List.getElem?_take] at hv; split at hv; exact hv; cases hv), fun v hv => h.vx v (List.mem_of_mem_take hv)⟩
theorem LawIn.rdv {w : World} {ao : Option Addr} {Vs : List Vv} (h : LawIn w ao Vs) : RdV w ao (Vs.map Vv.vx) := by
  intro i v hv
  rw [List.getElem?_map] at hv
  obtain ⟨u, hu, rfl⟩ := Option.map_eq_some_iff.1 hv
  obtain ⟨_, _, h3⟩ := h.rd i u hu
  exact ⟨h.vx u (List.mem_of_getElem? hu), h3⟩
theorem LawIn.below {w w' : World} {ao : Option Addr} {Vs : List Vv} (h : LawIn w ao Vs) {B : Nat} (hb : Below B w w') (hB : w.heap.size ≤ B) : LawIn w' ao Vs :=
  ⟨h.rd.below hb hB, fun v hv => (h.vx v hv).below hb hB⟩
theorem RdW.one {w : World} {g og : Nat} {Vs : List Vv} {i : Nat} {v : Vv} (h : RdW w (some ⟨g, og, none⟩) Vs) (hi : Vs[i]? = some v) : w.cell? ⟨g, og + i * 4, none⟩ = some (.int .u32 v.id) ∧ w.cell? ⟨g, og + i * 4 + 1, none⟩ = some (.bool v.th) ∧ w.cell? ⟨g, og + i * 4 + 2, none⟩ = some (.slice v.po v.P.length v.pc) ∧ w.cell? ⟨g, og + i * 4 + 3, none⟩ = some (.slice v.ho v.L.length v.hc) := by
  obtain ⟨_, _, b, off, e, _, h1, h2, h3, h4⟩ := h i v hi
  simp only [Option.some.injEq, Addr.mk.injEq, and_true] at e
  obtain ⟨rfl, rfl⟩ := e
  exact ⟨h1, h2, h3, h4⟩
theorem hold_key (A B : List Vx) (h : A.map (fun v => (v.id, v.th, v.fars)) = B.map (fun v => (v.id, v.th, v.fars))) : holdAll A = holdAll B := by
  have e : ∀ V : List Vx, holdAll V = (V.map fun v => (v.id, v.th, v.fars)).foldl (fun S k => holdG S k.1 k.2.1 k.2.2) [] := fun V => by rw [List.foldl_map]; rfl
  rw [e A, e B, h]
theorem hold_core {A B : List Vv} (h : A.map Vv.core = B.map Vv.core) : holdAll (A.map Vv.vx) = holdAll (B.map Vv.vx) := by
  refine hold_key _ _ ?_
  have e : ∀ V : List Vv, (V.map Vv.vx).map (fun v => (v.id, v.th, v.fars)) = (V.map Vv.core).map fun k => (k.1, k.2.1, k.2.2.2.map Prod.fst) := fun V => by simp only [List.map_map]; rfl
  rw [e A, e B, h]
theorem OwnV.vxok {B : Nat} {w : World} {u : Vv} (h : OwnV B w u) (hid : In32 u.id) (hL : ∀ t ∈ u.L, In32 t.1) : u.vx.ok w := by
  refine ⟨hid, hL, h.ok.h, fun ad e _ => ?_⟩
  have e' : u.ho = some ad := e
  rcases h.h.2 with ⟨h0, h1⟩ | ⟨g, cap', cur, h0, h1, h2, h3, h4⟩
  · rw [e'] at h0; simp at h0
  · rw [e'] at h0
    simp only [Value.slice.injEq, Option.some.injEq] at h0
    rw [h0.1]
    exact (Array.getElem?_eq_some_iff.1 h2).1
theorem core_mem {A B : List Vv} (h : A.map Vv.core = B.map Vv.core) {u : Vv} (hu : u ∈ A) : ∃ v ∈ B, v.core = u.core := by
  have : u.core ∈ B.map Vv.core := by rw [← h]; exact List.mem_map.2 ⟨u, hu, rfl⟩
  obtain ⟨v, hv, e⟩ := List.mem_map.1 this
  exact ⟨v, hv, e⟩
set_option maxRecDepth 100000 in
set_option maxHeartbeats 2000000 in
theorem counts_law (ao : Option Addr) (c : Nat) (Vs : List Vv) (w : World) (h : LawIn w ao Vs) (hc : Vs.length ≤ c) :
    Calls Try.prog 3 #[.slice ao Vs.length c] w fun e w' => e = .returned (.bool true) ∧ Below w.heap.size w w' := by
  have HA := Lib.hid (awake_any w)
  have HL := Lib.hid h
  obtain ⟨N, hN⟩ : ∃ N, Vs.length = N := ⟨_, rfl⟩
  rw [hN] at hc ⊢
  have HN := Lib.hid hN
  clear h hN
  go_enter Try.func3, Try.ntmps3
  go_wp2_with (go_at_call 9; refine HA.out.mono ?_; rintro e w1 ⟨rfl, hb⟩; have H1 := Lib.hid hb; clear hb)
  have e3 : min (N : Int) 60 = ((min N 60 : Nat) : Int) := by omega
  obtain ⟨n, hn⟩ : ∃ n, min N 60 = n := ⟨_, rfl⟩
  rw [e3, hn]
  simp only [Int.toNat_natCast, show max (n : Int) 0 = n by omega]
  have hn60 : n ≤ 60 := by omega
  have hnc : n ≤ c := by omega
  obtain ⟨Ws, hWs⟩ : ∃ Ws, Vs.take n = Ws := ⟨_, rfl⟩
  have hWl : Ws.length = n := by rw [← hWs, List.length_take, HN.out]; omega
  have HW := Lib.hid (And.intro (hWs ▸ HL.out.take n : LawIn w ao Ws) hWl)
  clear HL HN HA e3 hn hWs hWl hc
  go_loopw [16] (fun u wr => ∃ j : Nat, j ≤ n ∧ u = .int .i64 j ∧ Hid ((∀ v ∈ Ws.take j, v.L.length ≤ 100) ∧ Below w.heap.size w wr)) (fun u _ => n - (intOf u).toNat)
  case atStart => exact ⟨0, by omega, rfl, Lib.hid ⟨by simp, H1.out⟩⟩
  case round =>
    obtain ⟨j, hj, rfl, HA⟩ := hrel
    by_cases hlt : j < n
    · obtain ⟨v, hv⟩ : ∃ v, Ws[j]? = some v := ⟨_, List.getElem?_eq_getElem (by have := HW.out.2; omega)⟩
      obtain ⟨_, _, g, og, rfl, _, c0, c1, c2, c3⟩ := (HW.out.1.rd.below HA.out.2 (Nat.le_refl _)) j v hv
      have HS := Lib.hid hv
      have j1 : (j : Int) < (n : Int) := by omega
      clear hv
      by_cases h100 : v.L.length ≤ 100
      · have e1 : decide ((100 : Int) < (v.L.length : Int)) = false := decide_eq_false (by omega)
        have e2 : decide (100 < v.L.length) = false := decide_eq_false (by omega)
        have HE := Lib.hid (show ∀ u ∈ Ws.take (j + 1), u.L.length ≤ 100 from fun u hu => by
          rw [take_next HS.out] at hu
          rcases List.mem_append.1 hu with hu | hu
          · exact HA.out.1 u hu
          · rw [List.mem_singleton.1 hu]; exact h100)
        clear h100
        go_wp2_with fail
        refine ⟨⟨j + 1, by omega, by go_num, Lib.hid ⟨HE.out, HA.out.2⟩⟩, by simp [intOf]; omega⟩
      · have e1 : (100 : Int) < (v.L.length : Int) := by omega
        have e2 : 100 < v.L.length := by omega
        clear h100
        go_wp2_with fail
        go_ret
        exact ⟨rfl, HA.out.2⟩
    · obtain rfl : j = n := by omega
      have hK : ∀ v ∈ Ws, v.L.length ≤ 100 := by have := HA.out.1; rwa [List.take_of_length_le (by rw [HW.out.2]; exact Nat.le_refl _)] at this
      have HK := Lib.hid hK
      obtain ⟨wA, hwA⟩ : ∃ W, wr = W := ⟨_, rfl⟩
      rw [hwA] at HA ⊢
      have HB := Lib.hid HA.out.2
      have HI := Lib.hid (HW.out.1.below HA.out.2 (Nat.le_refl _))
      have HTw := Lib.hid (twins_any ao c Ws wA HI.out.rd (by have := HW.out.2; omega))
      rw [HW.out.2] at HTw
      clear hK hwA HA H1
      go_wp2_with (go_at_call 10; refine HTw.out.mono ?_; rintro e w2 ⟨v', Us, rfl, hco, hown, hrow, hb2⟩; have H2 := Lib.hid (And.intro hco (And.intro hown (And.intro hrow hb2))); clear hco hown hrow hb2)
      have hUl : Us.length = j := by have := congrArg List.length H2.out.1; rw [List.length_map, List.length_map, HW.out.2] at this; exact this
      have hinW : ∀ v ∈ Ws, In32 v.id ∧ ∀ t ∈ v.L, In32 t.1 := fun v hv => ⟨(HI.out.vx v hv).1, (HI.out.vx v hv).2.1⟩
      have hin : ∀ u ∈ Us, (In32 u.id ∧ ∀ t ∈ u.L, In32 t.1) ∧ u.L.length ≤ 100 := fun u hu => by
        obtain ⟨v, hv, e⟩ := core_mem H2.out.1 hu
        simp only [Vv.core, Prod.mk.injEq] at e
        obtain ⟨e1, _, _, e4⟩ := e
        rw [← e1, ← e4]
        exact ⟨hinW v hv, HK.out v hv⟩
      have hokU : ∀ u ∈ Us.map Vv.vx, u.ok w2 := fun u hu => by
        obtain ⟨x, hx, rfl⟩ := List.mem_map.1 hu
        exact (H2.out.2.1 x hx).vxok (hin x hx).1.1 (hin x hx).1.2
      have hKU : ∀ u ∈ Us.map Vv.vx, u.L.length ≤ 100 := fun u hu => by
        obtain ⟨x, hx, rfl⟩ := List.mem_map.1 hu
        exact (hin x hx).2
      have hKW : ∀ u ∈ Ws.map Vv.vx, u.L.length ≤ 100 := fun u hu => by
        obtain ⟨x, hx, rfl⟩ := List.mem_map.1 hu
        exact HK.out x hx
      have h32W : ∀ v ∈ Ws.map Vv.vx, In32 v.id ∧ ∀ t ∈ v.L, In32 t.1 := fun u hu => by
        obtain ⟨x, hx, rfl⟩ := List.mem_map.1 hu
        exact hinW x hx
      have hUl2 : (Us.map Vv.vx).length = j := by rw [List.length_map, hUl]
      have hrowU := H2.out.2.2.1
      rw [show Us.length = (Us.map Vv.vx).length by simp] at hrowU
      obtain ⟨ao2, cap2, rfl, hrdU⟩ := rdv_own hrowU hokU
      have c13 := Lib.hid (count_any ao2 cap2 (Us.map Vv.vx) w2 hrdU (by rw [hUl2]; omega) hKU)
      have c16 := Lib.hid (fun (w' : World) (hb : Below w2.heap.size w2 w') => cuts_any ao2 cap2 (Us.map Vv.vx) w' (hrdU.below hb (Nat.le_refl _)) (by rw [hUl2]; omega) hKU)
      have hSS := hold_core H2.out.1
      have HRU := Lib.hid hrdU
      rw [hSS] at c13 c16
      rw [hUl2] at c13 c16 ⊢
      have hWl : (Ws.map Vv.vx).length = j := by rw [List.length_map]; exact HW.out.2
      have c14 := Lib.hid (fun (w' : World) (hb : Below wA.heap.size wA w') => refcount_any ao c (Ws.map Vv.vx) w' (HI.out.rdv.below hb (Nat.le_refl _)) (by rw [hWl]; omega) hKW (by rw [hWl]; exact hnc))
      have c17 := Lib.hid (fun (w' : World) (hb : Below wA.heap.size wA w') => refcuts_any ao c (Ws.map Vv.vx) w' (HI.out.rdv.below hb (Nat.le_refl _)) (by rw [hWl]; omega) hKW (by rw [hWl]; exact hnc))
      rw [hWl] at c14 c17
      obtain ⟨Wx, hWx⟩ : ∃ Wx, Ws.map Vv.vx = Wx := ⟨_, rfl⟩
      rw [hWx] at c13 c14 c16 c17 h32W hWl
      have HX := Lib.hid (And.intro h32W hWl)
      have hclen : ∀ V : List Vx, V.length ≤ 100 → (∀ v ∈ V, v.L.length ≤ 100) → (countL V).length ≤ 1000000 ∧ (cutsL V).length ≤ 1000000 := fun V h1 h2 => by
        have h3 : (heldL V).length ≤ 100 := Nat.le_trans (hl_len V _) h1
        have h4 := fV_len (heldL V) (heldL V) [] (fun v hv => h2 v (hl_sub V _ v hv))
        have h5 := cV_len (heldL V) (heldL V) [] (fun v hv => h2 v (hl_sub V _ v hv))
        simp only [List.length_nil] at h4 h5
        refine ⟨?_, ?_⟩
        · unfold countL cntsL; rw [List.length_map]; omega
        · unfold cutsL; omega
      have HLn := Lib.hid (hclen Wx (by rw [hWl]; omega) (by rw [← hWx]; exact hKW))
      clear hUl hinW hin hokU hKU hKW h32W hUl2 hrowU hrdU hSS hWl hWx hclen
      obtain ⟨L, hL⟩ : ∃ L, countL Wx = L := ⟨_, rfl⟩
      obtain ⟨M, hM⟩ : ∃ M, cutsL Wx = M := ⟨_, rfl⟩
      have HCL := Lib.hid hL
      have HCM := Lib.hid hM
      rw [hL] at c14 HLn
      rw [hM] at c17 HLn
      clear hL hM
      go_wp2_with (fail)
      refine c13.out.mono ?_
      rintro e w3 ⟨ao3, cap3, ss, rfl, hnm, ho, hb⟩
      rw [count_same hnm (fun v hv => (HX.out.1 v hv).2), HCL.out] at ho ⊢
      obtain ⟨ao3', cap3', e3, hr3⟩ := rdg_own ho
      simp only [Value.slice.injEq, true_and] at e3
      obtain ⟨rfl, rfl⟩ := e3
      have H3 := Lib.hid (And.intro hr3 (H2.out.2.2.2.trans (hb.mono H2.out.2.2.2.size)))
      have H3b := Lib.hid hb
      have c12 := Lib.hid (ghosts_any ao3 cap3 L w3 hr3 (by have := HLn.out.1; omega))
      clear hnm ho hb hr3
      go_wp2_with (fail)
      refine c12.out.mono ?_
      rintro e w4 ⟨v4, rfl, ho, hb⟩
      obtain ⟨ao4, cap4, rfl, hr4⟩ := rdg_own ho
      have H4 := Lib.hid (And.intro hr4 (And.intro (H3.out.2.trans (hb.mono H3.out.2.size)) (H3b.out.trans (hb.mono H3b.out.size))))
      clear ho hb hr4
      go_wp2_with (fail)
      refine (c14.out w4 H4.out.2.1).mono ?_
      rintro e w5 ⟨v5, rfl, ho, hb⟩
      obtain ⟨ao5, cap5, rfl, hr5⟩ := rdg_own ho
      have c11 := Lib.hid (same_any ao4 ao5 cap4 cap5 L L w5 (H4.out.1.on hb (Nat.le_refl _)) hr5 (by have := HLn.out.1; omega) (by have := HLn.out.1; omega))
      have H5 := Lib.hid (And.intro (H4.out.2.1.trans (hb.mono H4.out.2.1.size)) (H4.out.2.2.trans (hb.mono H4.out.2.2.size)))
      clear ho hb hr5
      go_wp2_with (fail)
      refine c11.out.mono ?_
      rintro e w6 ⟨rfl, hb⟩
      simp only [decide_true]
      have H6 := Lib.hid (And.intro (H5.out.1.trans (hb.mono H5.out.1.size)) (H5.out.2.trans (hb.mono H5.out.2.size)))
      clear hb
      go_wp2_with (fail)
      refine (c16.out w6 H6.out.2).mono ?_
      rintro e w7 ⟨ao7, cap7, L7, rfl, hcs, ho, hb⟩
      obtain rfl : L7 = M := by rw [cuts_same hcs (fun v hv => (HX.out.1 v hv).1)]; exact HCM.out
      have H7 := Lib.hid (And.intro (rd4_own ho) (And.intro (H6.out.1.trans (hb.mono H6.out.1.size)) (H6.out.2.trans (hb.mono H6.out.2.size))))
      clear hcs ho hb
      go_wp2_with (fail)
      refine (c17.out w7 H7.out.2.1).mono ?_
      rintro e w8 ⟨ao8, cap8, rfl, ho, hb⟩
      have c15 := Lib.hid (numbers_any ao7 ao8 cap7 cap8 L7 L7 w8 (H7.out.1.on hb (Nat.le_refl _)) (rd4_own ho) (by have := HLn.out.2; omega) (by have := HLn.out.2; omega))
      have H8 := Lib.hid (And.intro (H7.out.2.1.trans (hb.mono H7.out.2.1.size)) (H7.out.2.2.trans (hb.mono H7.out.2.2.size)))
      clear ho hb
      go_wp2_with (fail)
      refine c15.out.mono ?_
      rintro e w9 ⟨rfl, hb⟩
      simp only [decide_true]
      have H9 := Lib.hid (And.intro (H8.out.1.trans (hb.mono H8.out.1.size)) (H8.out.2.trans (hb.mono H8.out.2.size)))
      clear hb
      go_wp2_with (fail)
      go_loopw [5, 44] (fun a u wr => ∃ i : Nat, i ≤ j ∧ u = .int .i64 i ∧ a = .bool true ∧ Hid (Below wA.heap.size wA wr ∧ Below w2.heap.size w2 wr)) (fun _ u _ => j - (intOf u).toNat)
      case atStart => exact ⟨0, by omega, rfl, rfl, Lib.hid H9.out⟩
      case round =>
        obtain ⟨i, hi, rfl, rfl, HI2⟩ := hrel
        by_cases hlt2 : i < j
        · obtain ⟨v, hv⟩ : ∃ v, Ws[i]? = some v := ⟨_, List.getElem?_eq_getElem (by have := HW.out.2; omega)⟩
          obtain ⟨u, hu, huv⟩ : ∃ u, Us[i]? = some u ∧ u.core = v.core := by
            have h1 := congrArg (fun l => l[i]?) H2.out.1
            simp only [List.getElem?_map, hv, Option.map_some] at h1
            obtain ⟨u, hu, e⟩ := Option.map_eq_some_iff.1 h1
            exact ⟨u, hu, e⟩
          have hbd : Below wr.heap.size wr wr.drew := ⟨rfl, rfl, rfl, Nat.le_refl _, fun _ _ => rfl⟩
          have hokv := ((HI.out.rd.below HI2.out.1 (Nat.le_refl _)) i v hv).1.below hbd (Nat.le_refl _)
          have hoku := ((H2.out.2.1 u (List.mem_of_getElem? hu)).below HI2.out.2).ok.below hbd (Nat.le_refl _)
          have hPl := ((HI.out.rd i v hv).2.1)
          have huv2 := huv
          simp only [Vv.core, Prod.mk.injEq] at huv2
          have HSv := Lib.hid (samevertex_any u v wr.drew hoku hokv huv (by rw [huv2.2.2.1]; have := hPl.pn; omega) (by rw [huv2.2.2.2]; have := hPl.hn; omega))
          have HBd := Lib.hid (And.intro (HI2.out.1.trans (hbd.mono HI2.out.1.size)) (HI2.out.2.trans (hbd.mono HI2.out.2.size)))
          obtain ⟨_, hvs, g, og, rfl, _, c0, c1, c2, c3⟩ := (HI.out.rd.below HI2.out.1 (Nat.le_refl _)) i v hv
          obtain ⟨_, g2, o2, rfl, _, d0, d1, d2, d3⟩ := (HRU.out.below HI2.out.2 (Nat.le_refl _)) i u.vx (by rw [List.getElem?_map, hu]; rfl)
          simp only [Vv.vx] at d0 d1 d2 d3
          have i1 : (i : Int) < (j : Int) := by omega
          unfold Vv.val at HSv
          clear hv hu huv hokv hoku hPl huv2 hbd
          go_wp2_with (fail)
          refine still_tail 10 (by kernel_rfl) (by kernel_rfl) ?_
          simp only [List.take_succ_cons, List.take_zero, List.drop_succ_cons, List.drop_zero]
          repeat still_step
          refine wpStill_nil ?_
          go_wp2_with (go_at_call 18; refine HSv.out.mono ?_; rintro e w10 ⟨rfl, hb10⟩; have H10 := Lib.hid (And.intro (HBd.out.1.trans (hb10.mono HBd.out.1.size)) (HBd.out.2.trans (hb10.mono HBd.out.2.size))); clear hb10)
          go_roundw
          case rel => exact ⟨i + 1, by omega, by go_num, rfl, Lib.hid H10.out⟩
          case measure => simp [intOf] <;> omega
        · obtain rfl : i = j := by omega
          have HE := Lib.hid (HB.out.trans (HI2.out.1.mono HB.out.size))
          go_wp2_with (fail)
          go_ret
          exact ⟨rfl, HE.out⟩
end Go.Proofs.Ytbiiiniffkjgcaa.Gh
