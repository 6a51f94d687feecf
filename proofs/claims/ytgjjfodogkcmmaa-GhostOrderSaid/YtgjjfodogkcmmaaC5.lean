/- ghost: the document's Count, walked. -/
import Derived.Test.YtgjjfodogkcmmaaC4
namespace Go.Proofs.Ytgjjfodogkcmmaa.Gh
open Go Go.RowKit Ytgjjfodogkcmmaa.So
/-- The numbers that halves of held vertices lead to, of none held. -/
def fH (H : List Vx) (acc : List Int) (L : List Hf) : List Int := L.foldl (fun a t => if hasV H t.1 then a else insL a t.1) acc
def fV (H : List Vx) (acc : List Int) (Vs : List Vx) : List Int := Vs.foldl (fun a v => fH H a v.L) acc
theorem fH_snoc (H : List Vx) (acc : List Int) (L : List Hf) (t : Hf) : fH H acc (L ++ [t]) = if hasV H t.1 then fH H acc L else insL (fH H acc L) t.1 := by simp [fH, List.foldl_append]
theorem fV_snoc (H : List Vx) (acc : List Int) (Vs : List Vx) (v : Vx) : fV H acc (Vs ++ [v]) = fH H (fV H acc Vs) v.L := by simp [fV, List.foldl_append]
theorem fH_len (H : List Vx) : ∀ (L : List Hf) (acc : List Int), (fH H acc L).length ≤ acc.length + L.length
  | [], acc => by simp [fH]
  | t :: L, acc => by
    have h1 := fH_len H L (if hasV H t.1 then acc else insL acc t.1)
    have h2 := insL_len acc t.1
    have h3 : fH H acc (t :: L) = fH H (if hasV H t.1 then acc else insL acc t.1) L := rfl
    rw [h3, List.length_cons]
    refine Nat.le_trans h1 ?_
    split <;> omega
theorem fV_len (H : List Vx) : ∀ (Vs : List Vx) (acc : List Int), (∀ v ∈ Vs, v.L.length ≤ 100) → (fV H acc Vs).length ≤ acc.length + 100 * Vs.length
  | [], acc, _ => by simp [fV]
  | v :: Vs, acc, h => by
    have h1 := fV_len H Vs (fH H acc v.L) (fun u hu => h u (List.mem_cons_of_mem _ hu))
    have h2 := fH_len H v.L acc
    have h3 := h v (List.mem_cons_self ..)
    have h4 : fV H acc (v :: Vs) = fV H (fH H acc v.L) Vs := rfl
    rw [h4, List.length_cons]
    omega
/-- How many halves lead to a number. -/
def totH (x : Int) (L : List Hf) : Nat := (L.map Prod.fst).count x
def tot (x : Int) (Vs : List Vx) : Nat := (Vs.map fun v => totH x v.L).sum
theorem totH_snoc (x : Int) (L : List Hf) (t : Hf) : totH x (L ++ [t]) = totH x L + (if t.1 = x then 1 else 0) := by
  simp [totH, List.count_append, List.count_cons]
theorem tot_snoc (x : Int) (Vs : List Vx) (v : Vx) : tot x (Vs ++ [v]) = tot x Vs + totH x v.L := by simp [tot]
theorem totH_le (x : Int) (L : List Hf) : totH x L ≤ L.length := by
  have := List.count_le_length (a := x) (l := L.map Prod.fst)
  simpa [totH] using this
theorem tot_le (x : Int) : ∀ (Vs : List Vx), (∀ v ∈ Vs, v.L.length ≤ 100) → tot x Vs ≤ 100 * Vs.length
  | [], _ => by simp [tot]
  | v :: Vs, h => by
    have h1 := tot_le x Vs (fun u hu => h u (List.mem_cons_of_mem _ hu))
    have h2 := totH_le x v.L
    have h3 := h v (List.mem_cons_self ..)
    have h4 : tot x (v :: Vs) = totH x v.L + tot x Vs := by simp [tot]
    rw [h4, List.length_cons]
    omega
def cntsL (H : List Vx) (F : List Int) : GL := F.map fun x => (x, (tot x H : Int))
def countL (Vs : List Vx) : GL := cntsL (heldL Vs) (fV (heldL Vs) [] (heldL Vs))
def CountOf (L : GL) (w : World) (e : Ending) (w' : World) : Prop := ∃ v', e = .returned v' ∧ w'.ownsRow w.heap.size 48 2 v' L.length (g2 L) ∧ Below w.heap.size w w'
theorem rd4_own {w : World} {B : Nat} {ao : Option Addr} {n cap : Nat} {L : List Int} (h : w.ownsRow B 24 1 (.slice ao n cap) L.length (u32s L)) : Rd4 w ao L := by
  intro i x hx
  obtain ⟨ao', cap', e, _, hc⟩ := own_slice h
  simp only [Value.slice.injEq] at e
  obtain ⟨rfl, _, rfl⟩ := e
  obtain ⟨g, rfl, hg, hcell⟩ := hc i (.int .u32 x) (by simp [u32s, hx])
  exact ⟨g, 0, rfl, hg, by rw [Nat.zero_add]; exact hcell⟩
set_option maxRecDepth 100000 in
set_option maxHeartbeats 2000000 in
theorem refcount_any (ao : Option Addr) (c : Nat) (Vs : List Vx) (w : World) (hV : RdV w ao Vs) (hn : Vs.length ≤ 100) (hK : ∀ v ∈ Vs, v.L.length ≤ 100) (hc : Vs.length ≤ c) :
    Calls Try.prog 14 #[.slice ao Vs.length c] w (CountOf (countL Vs) w) := by
  obtain ⟨i0, hi0, hz0, hz1, hz2⟩ := info_parts info48
  have HZ := Lib.hid (And.intro hi0 (And.intro hz0 (And.intro hz1 hz2)))
  clear hi0 hz0 hz1 hz2
  have HH := Lib.hid (held_any ao c Vs w hV (by omega) hc)
  have HV := Lib.hid hV
  have hHl : (heldL Vs).length ≤ 100 := Nat.le_trans (hl_len Vs _) hn
  have hHK : ∀ v ∈ heldL Vs, v.L.length ≤ 100 := fun v hv => hK v (hl_sub Vs _ v hv)
  obtain ⟨H, hH⟩ : ∃ H, heldL Vs = H := ⟨_, rfl⟩
  have hok := hl_ok hV
  unfold countL
  unfold HeldOf at HH
  rw [hH] at HH hHl hHK hok ⊢
  have HOK := Lib.hid hok
  have HK := Lib.hid hHK
  clear hV hK hc hH hHK hok
  go_enter Try.func14, Try.ntmps14
  go_wp2_with (fail)
  refine HH.out.mono ?_
  rintro e w1 ⟨v', rfl, ho, hb⟩
  obtain ⟨ao1, cap1, rfl, hr1⟩ := rdv_own ho (fun u hu => (HOK.out u hu).below hb (Nat.le_refl _))
  have H1 := Lib.hid (And.intro hr1 hb)
  obtain ⟨n, hl⟩ : ∃ n, H.length = n := ⟨_, rfl⟩
  rw [hl] at hHl ⊢
  have HN := Lib.hid hl
  clear ho hb hr1 hl
  go_wp2_with (fail)
  go_loopw [4, 21] (fun v u wr => ∃ (j : Nat), j ≤ n ∧ u = .int .i64 j ∧ Hid (CtI w1 (fV H [] (H.take j)) v wr)) (fun _ u _ => n - (intOf u).toNat)
  case atStart => exact ⟨0, by omega, rfl, Lib.hid ⟨by simpa [fV, u32s] using World.ownsRow_nil _ _ _ _, Below.refl _ _⟩⟩
  case round =>
    obtain ⟨j, hj, rfl, HA⟩ := hrel
    by_cases hlt : j < n
    · obtain ⟨v, hv⟩ : ∃ v, H[j]? = some v := ⟨_, List.getElem?_eq_getElem (by have := HN.out; omega)⟩
      obtain ⟨hok, g, og, rfl, hgl, c0, c1, c2, c3⟩ := (H1.out.1.below HA.out.2 (Nat.le_refl _)) j v hv
      have HS := Lib.hid hv
      have j1 : (j : Int) < (n : Int) := by omega
      have hvK := HK.out v (List.mem_of_getElem? hv)
      have hacc := fV_len H (H.take j) [] (fun u hu => HK.out u (List.mem_of_mem_take hu))
      rw [List.length_take] at hacc
      have HB := Lib.hid (HA.out.2.alloc HA.out.2.size (.cells #[.int .u32 v.id, .bool v.th, .slice v.po v.pl v.pc, .slice v.ho v.L.length v.hc] 28))
      have HOKv := Lib.hid (hok.below ((Below.refl _ wr).alloc (Nat.le_refl _) (.cells #[.int .u32 v.id, .bool v.th, .slice v.po v.pl v.pc, .slice v.ho v.L.length v.hc] 28)) (Nat.le_refl _))
      clear hv hok
      go_wp2_with fail
      have kb := heap_alloc_new wr (.cells #[.int .u32 v.id, .bool v.th, .slice v.po v.pl v.pc, .slice v.ho v.L.length v.hc] 28)
      have KB := Lib.hid kb
      have hA1 := HA.out.1.alloc (.cells #[.int .u32 v.id, .bool v.th, .slice v.po v.pl v.pc, .slice v.ho v.L.length v.hc] 28)
      obtain ⟨W0, hW0⟩ : ∃ W, W = wr.alloc (.cells #[.int .u32 v.id, .bool v.th, .slice v.po v.pl v.pc, .slice v.ho v.L.length v.hc] 28) := ⟨_, rfl⟩
      have hsz : wr.heap.size < W0.heap.size := by rw [hW0]; simp
      have hbz := HA.out.2.size
      rw [← hW0] at KB HB hA1 HOKv ⊢
      obtain ⟨z, hz⟩ : ∃ z, wr.heap.size = z := ⟨_, rfl⟩
      rw [hz] at KB hsz hbz ⊢
      have HSZ := Lib.hid hsz
      have HBZ := Lib.hid hbz
      have HA1 := Lib.hid hA1
      have hacc2 : (fV H [] (H.take j)).length ≤ 10000 := by simp at hacc; omega
      have HAC := Lib.hid hacc2
      obtain ⟨m, hm⟩ : ∃ m, v.L.length = m := ⟨_, rfl⟩
      rw [hm] at hvK KB ⊢
      have HM := Lib.hid hm
      clear hm kb hA1 hsz hbz hacc hacc2 c0 c1 c2 c3
      go_loopw [4, 28] (fun a u wr => ∃ (k : Nat), k ≤ m ∧ u = .int .i64 k ∧ Hid (CtI w1 (fH H (fV H [] (H.take j)) (v.L.take k)) a wr ∧ wr.heap[z]? = some (.cells #[.int .u32 v.id, .bool v.th, .slice v.po v.pl v.pc, .slice v.ho m v.hc] 28 (0, 0)) ∧ v.ok wr)) (fun _ u _ => m - (intOf u).toNat)
      case atStart => exact ⟨0, by omega, rfl, Lib.hid ⟨⟨by simpa [fH] using HA1.out, HB.out⟩, KB.out, HOKv.out⟩⟩
      case round =>
        obtain ⟨k, hkm, rfl, HKI⟩ := hrel
        obtain ⟨ao3, cap3, ev3, _, _⟩ := own_slice HKI.out.1.1
        subst ev3
        have kb2 := HKI.out.2.1
        have m0 : wr.cell? ⟨z, 0, none⟩ = some (.int .u32 v.id) := by simp [World.cell?, kb2]
        by_cases hkl : k < m
        · obtain ⟨t, ht⟩ : ∃ t, v.L[k]? = some t := ⟨_, List.getElem?_eq_getElem (by have h1 := HM.out; omega)⟩
          obtain ⟨_, _, hrd, _⟩ := HKI.out.2.2
          obtain ⟨b2, off2, hho, hbl, q0, q1, q2, q3⟩ := hrd k t ht
          rw [hho]
          have HT := Lib.hid ht
          have kl : (k : Int) < (m : Int) := by omega
          have hb3 := HKI.out.1.2.alloc HKI.out.1.2.size (.cells #[.int .u32 t.1, .int .u8 t.2.1, .int .i64 t.2.2.1, .string t.2.2.2] 76)
          have HB3 := Lib.hid hb3
          have HHo := Lib.hid (holds_any (some ⟨g, og, none⟩) cap1 H t.1 (wr.alloc (.cells #[.int .u32 t.1, .int .u8 t.2.1, .int .i64 t.2.2.1, .string t.2.2.2] 76)) (H1.out.1.below hb3 (Nat.le_refl _)) (by have := HN.out; omega))
          rw [HN.out] at HHo
          have kt := heap_alloc_new wr (.cells #[.int .u32 t.1, .int .u8 t.2.1, .int .i64 t.2.2.1, .string t.2.2.2] 76)
          have KT := Lib.hid kt
          have haccl : (fH H (fV H [] (H.take j)) (v.L.take k)).length ≤ 20000 := by
            have h1 := fH_len H (v.L.take k) (fV H [] (H.take j))
            have h2 := HAC.out
            rw [List.length_take] at h1
            omega
          have HAl := Lib.hid haccl
          have hzw := (Array.getElem?_eq_some_iff.1 kb2).1
          have hst : fH H (fV H [] (H.take j)) (v.L.take (k + 1)) = if hasV H t.1 then fH H (fV H [] (H.take j)) (v.L.take k) else insL (fH H (fV H [] (H.take j)) (v.L.take k)) t.1 := by rw [take_next HT.out, fH_snoc]
          have HSt := Lib.hid hst
          have HZW := Lib.hid hzw
          have HHO := Lib.hid hho
          clear ht hb3 kt haccl hrd hho kb2 hst hzw
          cases hb : hasV H t.1
          · rw [hb] at HHo HSt
            go_wp2_with (first
              | (go_at_call 30; refine HHo.out.mono ?_; rintro e w6 ⟨rfl, hb6⟩; have kz6 := (hb6.block z (by have := HZW.out; simp; omega)).trans ((heap_alloc_old _ _ HZW.out).trans HKI.out.2.1); have kt6 := (hb6.block wr.heap.size (by simp)).trans (heap_alloc_new wr (.cells #[.int .u32 t.1, .int .u8 t.2.1, .int .i64 t.2.2.1, .string t.2.2.2] 76)); have m06 : w6.cell? ⟨wr.heap.size, 0, none⟩ = some (.int .u32 t.1) := (by simp [World.cell?, kt6]); have o6 := own_on (HKI.out.1.1.alloc (.cells #[.int .u32 t.1, .int .u8 t.2.1, .int .i64 t.2.2.1, .string t.2.2.2] 76)) (fun g e => hb6.block g (World.ownsRow.lt (HKI.out.1.1.alloc (.cells #[.int .u32 t.1, .int .u8 t.2.1, .int .i64 t.2.2.1, .string t.2.2.2] 76)) g e).2); have ok6 := (HKI.out.2.2.below ((Below.refl _ wr).alloc (Nat.le_refl _) (.cells #[.int .u32 t.1, .int .u8 t.2.1, .int .i64 t.2.2.1, .string t.2.2.2] 76)) (Nat.le_refl _)).below hb6 (Nat.le_refl _); have hbb := HB3.out.trans (hb6.mono HB3.out.size); have H6 := Lib.hid (And.intro o6 (And.intro kz6 (And.intro ok6 hbb))); clear o6 kz6 ok6 hbb hb6 kt6)
              | (go_at_call 31; refine (insert_any w1.heap.size ao3 cap3 _ t.1 w6 H6.out.1 H6.out.2.2.2.size (by have := HAl.out; omega)).mono ?_; rintro e w7 ⟨ao7, cap7, rfl, ho7, hb7⟩; have H7 := Lib.hid (And.intro ho7 hb7); clear ho7 hb7))
            have hE := Lib.hid (show CtI w1 (fH H (fV H [] (H.take j)) (v.L.take (k + 1))) (.slice ao7 (insL (fH H (fV H [] (H.take j)) (v.L.take k)) t.1).length cap7) w7 ∧ w7.heap[z]? = some (.cells #[.int .u32 v.id, .bool v.th, .slice v.po v.pl v.pc, .slice v.ho m v.hc] 28 (0, 0)) ∧ v.ok w7 from by
              rw [HSt.out]
              exact ⟨⟨H7.out.1, H6.out.2.2.2.trans (H7.out.2.mono H6.out.2.2.2.size)⟩, (H7.out.2.block z (Array.getElem?_eq_some_iff.1 H6.out.2.1).1).trans H6.out.2.1, H6.out.2.2.1.below H7.out.2 (Nat.le_refl _)⟩)
            rw [HHO.out] at hE
            go_roundw
            case rel => exact ⟨k + 1, by omega, by go_num, hE⟩
            case measure => simp [intOf] <;> omega
          · rw [hb] at HHo HSt
            go_wp2_with (go_at_call 30; refine HHo.out.mono ?_; rintro e w6 ⟨rfl, hb6⟩; have kz6 := (hb6.block z (by have := HZW.out; simp; omega)).trans ((heap_alloc_old _ _ HZW.out).trans HKI.out.2.1); have o6 := own_on (HKI.out.1.1.alloc (.cells #[.int .u32 t.1, .int .u8 t.2.1, .int .i64 t.2.2.1, .string t.2.2.2] 76)) (fun g e => hb6.block g (World.ownsRow.lt (HKI.out.1.1.alloc (.cells #[.int .u32 t.1, .int .u8 t.2.1, .int .i64 t.2.2.1, .string t.2.2.2] 76)) g e).2); have ok6 := (HKI.out.2.2.below ((Below.refl _ wr).alloc (Nat.le_refl _) (.cells #[.int .u32 t.1, .int .u8 t.2.1, .int .i64 t.2.2.1, .string t.2.2.2] 76)) (Nat.le_refl _)).below hb6 (Nat.le_refl _); have hbb := HB3.out.trans (hb6.mono HB3.out.size); have H6 := Lib.hid (And.intro o6 (And.intro kz6 (And.intro ok6 hbb))); clear o6 kz6 ok6 hbb hb6)
            have hE := Lib.hid (show CtI w1 (fH H (fV H [] (H.take j)) (v.L.take (k + 1))) (.slice ao3 (fH H (fV H [] (H.take j)) (v.L.take k)).length cap3) w6 ∧ w6.heap[z]? = some (.cells #[.int .u32 v.id, .bool v.th, .slice v.po v.pl v.pc, .slice v.ho m v.hc] 28 (0, 0)) ∧ v.ok w6 from by
              rw [HSt.out]
              exact ⟨⟨H6.out.1, H6.out.2.2.2⟩, H6.out.2.1, H6.out.2.2.1⟩)
            rw [HHO.out] at hE
            go_roundw
            case rel => exact ⟨k + 1, by omega, by go_num, hE⟩
            case measure => simp [intOf] <;> omega
        · obtain rfl : k = m := by omega
          have hE := Lib.hid (show CtI w1 (fV H [] (H.take (j + 1))) (.slice ao3 (fH H (fV H [] (H.take j)) (v.L.take k)).length cap3) wr from by
            rw [take_next HS.out, fV_snoc]
            have h := HKI.out.1
            have e : v.L.take k = v.L := List.take_of_length_le (by rw [HM.out]; exact Nat.le_refl _)
            rw [e] at h ⊢
            exact h)
          go_wp2_with fail
          go_roundw
          case rel => exact ⟨j + 1, by omega, by go_num, hE⟩
          case measure => simp [intOf] <;> omega
    · obtain rfl : j = n := by omega
      obtain ⟨ao3, cap3, ev3, _, _⟩ := own_slice HA.out.1
      subst ev3
      have hA := HA.out
      rw [List.take_of_length_le (by rw [HN.out]; exact Nat.le_refl _)] at hA
      have hFl := fV_len H H [] (fun u hu => HK.out u hu)
      rw [HN.out] at hFl
      obtain ⟨F, hF⟩ : ∃ F, fV H [] H = F := ⟨_, rfl⟩
      rw [show fV H [] (H.take j) = fV H [] H by rw [List.take_of_length_le (by rw [HN.out]; exact Nat.le_refl _)], hF]
      rw [hF] at hA hFl
      have HFe := Lib.hid hF
      obtain ⟨nf, hnf⟩ : ∃ nf, F.length = nf := ⟨_, rfl⟩
      rw [hnf] at hFl ⊢
      have HF := Lib.hid hnf
      have HFr := Lib.hid (rd4_own hA.1)
      have HAb := Lib.hid hA.2
      obtain ⟨wA, hwA⟩ : ∃ W, wr = W := ⟨_, rfl⟩
      rw [hwA] at HFr HAb ⊢
      have hnf2 : nf ≤ 10000 := by simp at hFl; omega
      clear hA hFl hnf hwA HA
      go_wp2_with fail
      go_loopw [9, 45] (fun v u wr => ∃ (i : Nat), i ≤ nf ∧ u = .int .i64 i ∧ Hid (wr.ownsRow wA.heap.size 48 2 v i (g2 (cntsL H (F.take i))) ∧ Below wA.heap.size wA wr)) (fun _ u _ => nf - (intOf u).toNat)
      case atStart => exact ⟨0, by omega, rfl, Lib.hid ⟨by simpa [cntsL, g2] using World.ownsRow_nil _ _ _ _, Below.refl _ _⟩⟩
      case round =>
        obtain ⟨i, hi, rfl, HI⟩ := hrel
        by_cases hil : i < nf
        · obtain ⟨x, hx⟩ : ∃ x, F[i]? = some x := ⟨_, List.getElem?_eq_getElem (by have := HF.out; omega)⟩
          obtain ⟨gf, of, rfl, _, cf⟩ := (HFr.out.on HI.out.2 (Nat.le_refl _)) i x hx
          have HX := Lib.hid hx
          have il : (i : Int) < (nf : Int) := by omega
          have HT0 := Lib.hid (show tot x (H.take 0) = 0 from rfl)
          clear hx
          go_wp2_with fail
          obtain ⟨ao4, cap4, ev4⟩ : ∃ ao cap, u9 = .slice ao i cap := by
            rcases HI.out.1.2 with ⟨e, h0⟩ | ⟨g, cap, cur, e, _⟩
            · exact ⟨none, 0, by rw [e, h0]⟩
            · exact ⟨_, cap, e⟩
          subst ev4
          obtain ⟨W1, hW1⟩ : ∃ W, wr = W := ⟨_, rfl⟩
          rw [hW1] at HI ⊢
          have HB1 := Lib.hid (HAb.out.trans (HI.out.2.mono HAb.out.size))
          clear cf hW1 il
          go_loopw [12, 51] (fun a u wr => ∃ (i2 : Nat), i2 ≤ j ∧ u = .int .i64 i2 ∧ a = .int .i64 (tot x (H.take i2) : Nat) ∧ Hid (Below W1.heap.size W1 wr)) (fun _ u _ => j - (intOf u).toNat)
          case atStart => exact ⟨0, by omega, rfl, rfl, Lib.hid (Below.refl _ _)⟩
          case round =>
            obtain ⟨i2, hi2, rfl, rfl, HM2⟩ := hrel
            by_cases hl2 : i2 < j
            · obtain ⟨v, hv⟩ : ∃ v, H[i2]? = some v := ⟨_, List.getElem?_eq_getElem (by have := HN.out; omega)⟩
              obtain ⟨hok, g, og, rfl, hgl, c0, c1, c2, c3⟩ := (H1.out.1.below (HB1.out.trans (HM2.out.mono HB1.out.size)) (Nat.le_refl _)) i2 v hv
              have HS := Lib.hid hv
              have j1 : (i2 : Int) < (j : Int) := by omega
              have hvK := HK.out v (List.mem_of_getElem? hv)
              have htot := tot_le x (H.take i2) (fun u hu => HK.out u (List.mem_of_mem_take hu))
              rw [List.length_take] at htot
              have hq1 : tot x (H.take i2) ≤ 10000 := by omega
              have HOKv := Lib.hid (hok.below ((Below.refl _ wr).alloc (Nat.le_refl _) (.cells #[.int .u32 v.id, .bool v.th, .slice v.po v.pl v.pc, .slice v.ho v.L.length v.hc] 28)) (Nat.le_refl _))
              have HB2 := Lib.hid (HM2.out.alloc HM2.out.size (.cells #[.int .u32 v.id, .bool v.th, .slice v.po v.pl v.pc, .slice v.ho v.L.length v.hc] 28))
              have HQ1 := Lib.hid hq1
              clear hv hok htot hq1
              go_wp2_with fail
              obtain ⟨W2, hW2⟩ : ∃ W, wr.alloc (.cells #[.int .u32 v.id, .bool v.th, .slice v.po v.pl v.pc, .slice v.ho v.L.length v.hc] 28) = W := ⟨_, rfl⟩
              rw [hW2] at HOKv HB2 ⊢
              obtain ⟨m, hm⟩ : ∃ m, v.L.length = m := ⟨_, rfl⟩
              rw [hm] at hvK ⊢
              have HMm := Lib.hid hm
              clear hm hW2 c0 c1 c2 c3
              go_loopw [12, 58] (fun a u wr => ∃ (k : Nat), k ≤ m ∧ u = .int .i64 k ∧ a = .int .i64 (tot x (H.take i2) + totH x (v.L.take k) : Nat) ∧ Hid (Below W2.heap.size W2 wr)) (fun _ u _ => m - (intOf u).toNat)
              case atStart => exact ⟨0, by omega, rfl, rfl, Lib.hid (Below.refl _ _)⟩
              case round =>
                obtain ⟨k, hk2, rfl, rfl, HM3⟩ := hrel
                by_cases hl3 : k < m
                · obtain ⟨t, ht⟩ : ∃ t, v.L[k]? = some t := ⟨_, List.getElem?_eq_getElem (by have := HMm.out; omega)⟩
                  obtain ⟨_, _, hrd, _⟩ := HOKv.out.below HM3.out (Nat.le_refl _)
                  obtain ⟨b2, off2, hho, hbl, q0, q1, q2, q3⟩ := hrd k t ht
                  rw [hho]
                  have kl : (k : Int) < (m : Int) := by omega
                  obtain ⟨q, hq⟩ : ∃ q, tot x (H.take i2) + totH x (v.L.take k) = q := ⟨_, rfl⟩
                  have hql : q ≤ 20000 := by
                    have h1 := totH_le x (v.L.take k)
                    have h2 := HQ1.out
                    rw [List.length_take] at h1
                    omega
                  have hnext : tot x (H.take i2) + totH x (v.L.take (k + 1)) = q + (if t.1 = x then 1 else 0) := by rw [take_next ht, totH_snoc, ← hq]; omega
                  have HNx := Lib.hid hnext
                  have HM4 := Lib.hid (HM3.out.alloc HM3.out.size (.cells #[.int .u32 t.1, .int .u8 t.2.1, .int .i64 t.2.2.1, .string t.2.2.2] 76))
                  rw [hq]
                  clear ht hrd hho hq hnext
                  by_cases hxt : t.1 = x
                  · have e1 : (t.1 == x) = true := by simp [hxt]
                    have HN2 := Lib.hid (show tot x (H.take i2) + totH x (v.L.take (k + 1)) = q + 1 by rw [HNx.out, if_pos hxt])
                    clear hxt
                    go_wp2_with fail
                    go_roundw
                    case rel => exact ⟨k + 1, by omega, by go_num, by rw [HN2.out]; go_num, HM4⟩
                    case measure => simp [intOf] <;> omega
                  · have e1 : (t.1 == x) = false := by simp [hxt]
                    have HN2 := Lib.hid (show tot x (H.take i2) + totH x (v.L.take (k + 1)) = q by rw [HNx.out, if_neg hxt, Nat.add_zero])
                    clear hxt
                    go_wp2_with fail
                    go_roundw
                    case rel => exact ⟨k + 1, by omega, by go_num, by rw [HN2.out], HM4⟩
                    case measure => simp [intOf] <;> omega
                · obtain rfl : k = m := by omega
                  have hE : tot x (H.take (i2 + 1)) = tot x (H.take i2) + totH x (v.L.take k) := by
                    rw [take_next HS.out, tot_snoc, show v.L.take k = v.L from List.take_of_length_le (by rw [HMm.out]; exact Nat.le_refl _)]
                  have HE := Lib.hid hE
                  have HBz := Lib.hid (HB2.out.trans (HM3.out.mono HB2.out.size))
                  obtain ⟨q, hq⟩ : ∃ q, tot x (H.take i2) + totH x (v.L.take k) = q := ⟨_, rfl⟩
                  rw [hq] at HE ⊢
                  clear hE hq
                  go_wp2_with fail
                  go_roundw
                  case rel => exact ⟨i2 + 1, by omega, by go_num, by rw [HE.out], HBz⟩
                  case measure => simp [intOf] <;> omega
            · obtain rfl : i2 = j := by omega
              have hte : H.take i2 = H := List.take_of_length_le (by rw [HN.out]; exact Nat.le_refl _)
              rw [hte]
              obtain ⟨q, hq⟩ : ∃ q, tot x H = q := ⟨_, rfl⟩
              have HQ := Lib.hid hq
              rw [hq]
              have hrow := own_on HI.out.1 (fun g e => HM2.out.block g (World.ownsRow.lt HI.out.1 g e).2)
              have HRow := Lib.hid hrow
              have hbz := HI.out.2.trans (HM2.out.mono HI.out.2.size)
              have HBz := Lib.hid hbz
              have hst : cntsL H (F.take (i + 1)) = cntsL H (F.take i) ++ [(x, (q : Int))] := by rw [take_next HX.out, ← hq]; simp [cntsL]
              have HSt := Lib.hid hst
              have hcl : (cntsL H (F.take i)).length ≤ i := by simp [cntsL]; omega
              clear hq hrow hbz hst hte
              go_wp2_with (at_builtin; refine wpList_append_own _ rfl (.tmp 70) (.tmp 74) 31 rfl wA.heap.size 48 i0 _ 2 16 Try.underlying31 HZ.out.1 HZ.out.2.1 HZ.out.2.2.1 HZ.out.2.2.2 rfl (by decide) (.slice ao4 i cap4) i (g2 (cntsL H (F.take i))) rfl (HRow.out.alloc _) ⟨wr.heap.size, 0, none⟩ 1 1 (g2 [(x, (q : Int))]) rfl (by rw [g2_len]; rfl) (news48 wr x q) (one2' x q) (by unfold maxLen; omega) (by omega) (by have := HBz.out.size; simp; omega) ?_; intro v5 w5 hown5 hgrow5 hnil5; have H5 := Lib.hid (And.intro hown5 ((HBz.out.alloc HBz.out.size _).grown hgrow5 (by have := HBz.out.size; simp; omega) (fun g e => (World.ownsRow.lt HRow.out g e).1))); clear hown5 hgrow5 hnil5)
              have hE := Lib.hid (show w5.ownsRow wA.heap.size 48 2 v5 (i + 1) (g2 (cntsL H (F.take (i + 1)))) ∧ Below wA.heap.size wA w5 from by
                rw [HSt.out, g2_app]
                exact H5.out)
              go_roundw
              case rel => exact ⟨i + 1, by omega, by go_num, hE⟩
              case measure => simp [intOf] <;> omega
        · obtain rfl : i = nf := by omega
          have hE := HI.out
          rw [List.take_of_length_le (by rw [HF.out]; exact Nat.le_refl _)] at hE
          have HE := Lib.hid (show CountOf (cntsL H F) w (.returned u9) wr from by
            have hb1 := H1.out.2.trans (HAb.out.mono H1.out.2.size)
            refine ⟨u9, rfl, ?_, hb1.trans (hE.2.mono hb1.size)⟩
            rw [show (cntsL H F).length = i by simp [cntsL]; exact HF.out]
            exact v_low hE.1 hb1.size)
          clear hE
          go_wp2_with fail
          go_ret
          rw [HFe.out]
          exact HE.out
end Go.Proofs.Ytgjjfodogkcmmaa.Gh
