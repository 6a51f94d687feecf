/- ghost: the document's Cuts, walked. -/
import Derived.Test.YtgjjfodogkcmmaaC3
namespace Go.Proofs.Ytgjjfodogkcmmaa.Gh
open Go Go.RowKit Ytgjjfodogkcmmaa.So
theorem insS_len2 (x : Int) (p : List Int × Bool) (y : Int) (k : Nat) (h : p.1.length = k + p.2.toNat) : (insS x p y).1.length = k + 1 + (insS x p y).2.toNat := by
  unfold insS
  split
  · rename_i hc
    rw [hc.1] at h
    simp at h ⊢
    omega
  · simp only [List.length_append, List.length_cons, List.length_nil]; omega
theorem insF_len2 (x : Int) : ∀ (l : List Int) (p : List Int × Bool) (k : Nat), p.1.length = k + p.2.toNat → (l.foldl (insS x) p).1.length = k + l.length + (l.foldl (insS x) p).2.toNat
  | [], p, k, h => by simpa using h
  | y :: l, p, k, h => by
    have := insF_len2 x l (insS x p y) (k + 1) (insS_len2 x p y k h)
    simp only [List.foldl_cons, List.length_cons]
    omega
theorem insL_len (l : List Int) (x : Int) : (insL l x).length ≤ l.length + 1 := by
  unfold insL
  split
  · omega
  · have h := insF_len2 x l ([], false) 0 (by simp)
    have hb : (l.foldl (insS x) ([], false)).2.toNat ≤ 1 := Bool.toNat_le _
    split
    · unfold insF; omega
    · rename_i h2
      unfold insF at h2 ⊢
      simp only [Bool.not_eq_true] at h2
      rw [h2] at h
      simp only [List.length_append, List.length_cons, List.length_nil, Bool.toNat_false] at h ⊢
      omega
/-- One vertex's cuts: its number goes in for each half that leads to no held vertex. -/
def cH (H : List Vx) (id : Int) (acc : List Int) (L : List Hf) : List Int := L.foldl (fun a t => if hasV H t.1 then a else insL a id) acc
def cV (H : List Vx) (acc : List Int) (Vs : List Vx) : List Int := Vs.foldl (fun a v => cH H v.id a v.L) acc
def cutsL (Vs : List Vx) : List Int := cV (heldL Vs) [] (heldL Vs)
theorem cH_snoc (H : List Vx) (id : Int) (acc : List Int) (L : List Hf) (t : Hf) : cH H id acc (L ++ [t]) = if hasV H t.1 then cH H id acc L else insL (cH H id acc L) id := by simp [cH, List.foldl_append]
theorem cV_snoc (H : List Vx) (acc : List Int) (Vs : List Vx) (v : Vx) : cV H acc (Vs ++ [v]) = cH H v.id (cV H acc Vs) v.L := by simp [cV, List.foldl_append]
theorem cH_len (H : List Vx) (id : Int) : ∀ (L : List Hf) (acc : List Int), (cH H id acc L).length ≤ acc.length + L.length
  | [], acc => by simp [cH]
  | t :: L, acc => by
    have h1 := cH_len H id L (if hasV H t.1 then acc else insL acc id)
    have h2 := insL_len acc id
    have h3 : cH H id acc (t :: L) = cH H id (if hasV H t.1 then acc else insL acc id) L := rfl
    rw [h3, List.length_cons]
    refine Nat.le_trans h1 ?_
    split <;> omega
theorem cV_len (H : List Vx) : ∀ (Vs : List Vx) (acc : List Int), (∀ v ∈ Vs, v.L.length ≤ 100) → (cV H acc Vs).length ≤ acc.length + 100 * Vs.length
  | [], acc, _ => by simp [cV]
  | v :: Vs, acc, h => by
    have h1 := cV_len H Vs (cH H v.id acc v.L) (fun u hu => h u (List.mem_cons_of_mem _ hu))
    have h2 := cH_len H v.id v.L acc
    have h3 := h v (List.mem_cons_self ..)
    have h4 : cV H acc (v :: Vs) = cV H (cH H v.id acc v.L) Vs := rfl
    rw [h4, List.length_cons]
    omega
def CtI (w : World) (acc : List Int) (v : Value) (wr : World) : Prop := wr.ownsRow w.heap.size 24 1 v acc.length (u32s acc) ∧ Below w.heap.size w wr
def CutsOf (L : List Int) (w : World) (e : Ending) (w' : World) : Prop := ∃ ao cap, e = .returned (.slice ao L.length cap) ∧ w'.ownsRow w.heap.size 24 1 (.slice ao L.length cap) L.length (u32s L) ∧ Below w.heap.size w w'
theorem hl_ok {w : World} {ao : Option Addr} {Vs : List Vx} (h : RdV w ao Vs) : ∀ v ∈ heldL Vs, v.ok w := fun v hv => by
  obtain ⟨i, hi⟩ := List.getElem?_of_mem (hl_sub Vs _ v hv)
  exact (h i v hi).1
set_option maxRecDepth 100000 in
set_option maxHeartbeats 2000000 in
theorem refcuts_any (ao : Option Addr) (c : Nat) (Vs : List Vx) (w : World) (hV : RdV w ao Vs) (hn : Vs.length ≤ 100) (hK : ∀ v ∈ Vs, v.L.length ≤ 100) (hc : Vs.length ≤ c) :
    Calls Try.prog 17 #[.slice ao Vs.length c] w (CutsOf (cutsL Vs) w) := by
  have HH := Lib.hid (held_any ao c Vs w hV (by omega) hc)
  have HV := Lib.hid hV
  have hHl : (heldL Vs).length ≤ 100 := Nat.le_trans (hl_len Vs _) hn
  have hHK : ∀ v ∈ heldL Vs, v.L.length ≤ 100 := fun v hv => hK v (hl_sub Vs _ v hv)
  obtain ⟨H, hH⟩ : ∃ H, heldL Vs = H := ⟨_, rfl⟩
  have hok := hl_ok hV
  unfold cutsL
  unfold HeldOf at HH
  rw [hH] at HH hHl hHK hok ⊢
  have HOK := Lib.hid hok
  have HK := Lib.hid hHK
  clear hV hK hc hH hHK hok
  go_enter Try.func17, Try.ntmps17
  go_wp2_with (fail)
  refine HH.out.mono ?_
  rintro e w1 ⟨v', rfl, ho, hb⟩
  obtain ⟨ao1, cap1, rfl, hr1⟩ := rdv_own ho (fun u hu => (HOK.out u hu).below hb (Nat.le_refl _))
  have H1 := Lib.hid (And.intro hr1 hb)
  obtain ⟨n, hl⟩ : ∃ n, H.length = n := ⟨_, rfl⟩
  rw [hl] at hHl ⊢
  have HN := Lib.hid hl
  clear ho hb hr1 hl
  go_wp2_with (fail)
  go_loopw [4, 13] (fun v u wr => ∃ (j : Nat), j ≤ n ∧ u = .int .i64 j ∧ Hid (CtI w1 (cV H [] (H.take j)) v wr)) (fun _ u _ => n - (intOf u).toNat)
  case atStart => exact ⟨0, by omega, rfl, Lib.hid ⟨by simpa [cV, u32s] using World.ownsRow_nil _ _ _ _, Below.refl _ _⟩⟩
  case round =>
    obtain ⟨j, hj, rfl, HA⟩ := hrel
    by_cases hlt : j < n
    · obtain ⟨v, hv⟩ : ∃ v, H[j]? = some v := ⟨_, List.getElem?_eq_getElem (by have := HN.out; omega)⟩
      obtain ⟨hok, g, og, rfl, hgl, c0, c1, c2, c3⟩ := (H1.out.1.below HA.out.2 (Nat.le_refl _)) j v hv
      have HS := Lib.hid hv
      have j1 : (j : Int) < (n : Int) := by omega
      have hvK := HK.out v (List.mem_of_getElem? hv)
      have hacc := cV_len H (H.take j) [] (fun u hu => HK.out u (List.mem_of_mem_take hu))
      rw [List.length_take] at hacc
      have HB := Lib.hid (HA.out.2.alloc HA.out.2.size (.cells #[.int .u32 v.id, .bool v.th, .slice v.po v.pl v.pc, .slice v.ho v.L.length v.hc] 28))
      have HOKv := Lib.hid (hok.below ((Below.refl _ wr).alloc (Nat.le_refl _) (.cells #[.int .u32 v.id, .bool v.th, .slice v.po v.pl v.pc, .slice v.ho v.L.length v.hc] 28)) (Nat.le_refl _))
      clear hv hok
      go_wp2_with fail
      have kb := heap_alloc_new wr (.cells #[.int .u32 v.id, .bool v.th, .slice v.po v.pl v.pc, .slice v.ho v.L.length v.hc] 28)
      have KB := Lib.hid kb
      have hA1 := HA.out.1.alloc (.cells #[.int .u32 v.id, .bool v.th, .slice v.po v.pl v.pc, .slice v.ho v.L.length v.hc] 28)
      obtain ⟨W0, hW0⟩ : ∃ W, W = wr.alloc (.cells #[.int .u32 v.id, .bool v.th, .slice v.po v.pl v.pc, .slice v.ho v.L.length v.hc] 28) := ⟨_, rfl⟩
      have hsz : wr.heap.size < W0.heap.size := by rw [hW0]; simp
      have hbz := HA.out.2.size
      rw [← hW0] at KB HB hA1 HOKv ⊢
      obtain ⟨z, hz⟩ : ∃ z, wr.heap.size = z := ⟨_, rfl⟩
      rw [hz] at KB hsz hbz ⊢
      have HSZ := Lib.hid hsz
      have HBZ := Lib.hid hbz
      have HA1 := Lib.hid hA1
      have hacc2 : (cV H [] (H.take j)).length ≤ 10000 := by simp at hacc; omega
      have HAC := Lib.hid hacc2
      obtain ⟨m, hm⟩ : ∃ m, v.L.length = m := ⟨_, rfl⟩
      rw [hm] at hvK KB ⊢
      have HM := Lib.hid hm
      clear hm kb hA1 hsz hbz hacc hacc2 c0 c1 c2 c3
      go_loopw [4, 20] (fun a u wr => ∃ (k : Nat), k ≤ m ∧ u = .int .i64 k ∧ Hid (CtI w1 (cH H v.id (cV H [] (H.take j)) (v.L.take k)) a wr ∧ wr.heap[z]? = some (.cells #[.int .u32 v.id, .bool v.th, .slice v.po v.pl v.pc, .slice v.ho m v.hc] 28 (0, 0)) ∧ v.ok wr)) (fun _ u _ => m - (intOf u).toNat)
      case atStart => exact ⟨0, by omega, rfl, Lib.hid ⟨⟨by simpa [cH] using HA1.out, HB.out⟩, KB.out, HOKv.out⟩⟩
      case round =>
        obtain ⟨k, hkm, rfl, HKI⟩ := hrel
        obtain ⟨ao3, cap3, ev3, _, _⟩ := own_slice HKI.out.1.1
        subst ev3
        have kb2 := HKI.out.2.1
        have m0 : wr.cell? ⟨z, 0, none⟩ = some (.int .u32 v.id) := by simp [World.cell?, kb2]
        by_cases hkl : k < m
        · obtain ⟨t, ht⟩ : ∃ t, v.L[k]? = some t := ⟨_, List.getElem?_eq_getElem (by have h1 := HM.out; omega)⟩
          obtain ⟨_, _, hrd, _⟩ := HKI.out.2.2
          obtain ⟨b2, off2, hho, hbl, q0, q1, q2, q3⟩ := hrd k t ht
          rw [hho]
          have HT := Lib.hid ht
          have kl : (k : Int) < (m : Int) := by omega
          have hb3 := HKI.out.1.2.alloc HKI.out.1.2.size (.cells #[.int .u32 t.1, .int .u8 t.2.1, .int .i64 t.2.2.1, .string t.2.2.2] 76)
          have HB3 := Lib.hid hb3
          have HHo := Lib.hid (holds_any (some ⟨g, og, none⟩) cap1 H t.1 (wr.alloc (.cells #[.int .u32 t.1, .int .u8 t.2.1, .int .i64 t.2.2.1, .string t.2.2.2] 76)) (H1.out.1.below hb3 (Nat.le_refl _)) (by have := HN.out; omega))
          rw [HN.out] at HHo
          have kt := heap_alloc_new wr (.cells #[.int .u32 t.1, .int .u8 t.2.1, .int .i64 t.2.2.1, .string t.2.2.2] 76)
          have KT := Lib.hid kt
          have haccl : (cH H v.id (cV H [] (H.take j)) (v.L.take k)).length ≤ 20000 := by
            have h1 := cH_len H v.id (v.L.take k) (cV H [] (H.take j))
            have h2 := HAC.out
            rw [List.length_take] at h1
            omega
          have HAl := Lib.hid haccl
          have hzw := (Array.getElem?_eq_some_iff.1 kb2).1
          have hst : cH H v.id (cV H [] (H.take j)) (v.L.take (k + 1)) = if hasV H t.1 then cH H v.id (cV H [] (H.take j)) (v.L.take k) else insL (cH H v.id (cV H [] (H.take j)) (v.L.take k)) v.id := by rw [take_next HT.out, cH_snoc]
          have HSt := Lib.hid hst
          have HZW := Lib.hid hzw
          have HHO := Lib.hid hho
          clear ht hb3 kt haccl hrd hho kb2 hst hzw
          cases hb : hasV H t.1
          · rw [hb] at HHo HSt
            go_wp2_with (first
              | (go_at_call 30; refine HHo.out.mono ?_; rintro e w6 ⟨rfl, hb6⟩; have kz6 := (hb6.block z (by have := HZW.out; simp; omega)).trans ((heap_alloc_old _ _ HZW.out).trans HKI.out.2.1); have m06 : w6.cell? ⟨z, 0, none⟩ = some (.int .u32 v.id) := (by simp [World.cell?, kz6]); have o6 := own_on (HKI.out.1.1.alloc (.cells #[.int .u32 t.1, .int .u8 t.2.1, .int .i64 t.2.2.1, .string t.2.2.2] 76)) (fun g e => hb6.block g (World.ownsRow.lt (HKI.out.1.1.alloc (.cells #[.int .u32 t.1, .int .u8 t.2.1, .int .i64 t.2.2.1, .string t.2.2.2] 76)) g e).2); have ok6 := (HKI.out.2.2.below ((Below.refl _ wr).alloc (Nat.le_refl _) (.cells #[.int .u32 t.1, .int .u8 t.2.1, .int .i64 t.2.2.1, .string t.2.2.2] 76)) (Nat.le_refl _)).below hb6 (Nat.le_refl _); have hbb := HB3.out.trans (hb6.mono HB3.out.size); have H6 := Lib.hid (And.intro o6 (And.intro kz6 (And.intro ok6 hbb))); clear o6 kz6 ok6 hbb hb6)
              | (go_at_call 31; refine (insert_any w1.heap.size ao3 cap3 _ v.id w6 H6.out.1 H6.out.2.2.2.size (by have := HAl.out; omega)).mono ?_; rintro e w7 ⟨ao7, cap7, rfl, ho7, hb7⟩; have H7 := Lib.hid (And.intro ho7 hb7); clear ho7 hb7))
            have hE := Lib.hid (show CtI w1 (cH H v.id (cV H [] (H.take j)) (v.L.take (k + 1))) (.slice ao7 (insL (cH H v.id (cV H [] (H.take j)) (v.L.take k)) v.id).length cap7) w7 ∧ w7.heap[z]? = some (.cells #[.int .u32 v.id, .bool v.th, .slice v.po v.pl v.pc, .slice v.ho m v.hc] 28 (0, 0)) ∧ v.ok w7 from by
              rw [HSt.out]
              exact ⟨⟨H7.out.1, H6.out.2.2.2.trans (H7.out.2.mono H6.out.2.2.2.size)⟩, (H7.out.2.block z (Array.getElem?_eq_some_iff.1 H6.out.2.1).1).trans H6.out.2.1, H6.out.2.2.1.below H7.out.2 (Nat.le_refl _)⟩)
            rw [HHO.out] at hE
            go_roundw
            case rel => exact ⟨k + 1, by omega, by go_num, hE⟩
            case measure => simp [intOf] <;> omega
          · rw [hb] at HHo HSt
            go_wp2_with (go_at_call 30; refine HHo.out.mono ?_; rintro e w6 ⟨rfl, hb6⟩; have kz6 := (hb6.block z (by have := HZW.out; simp; omega)).trans ((heap_alloc_old _ _ HZW.out).trans HKI.out.2.1); have o6 := own_on (HKI.out.1.1.alloc (.cells #[.int .u32 t.1, .int .u8 t.2.1, .int .i64 t.2.2.1, .string t.2.2.2] 76)) (fun g e => hb6.block g (World.ownsRow.lt (HKI.out.1.1.alloc (.cells #[.int .u32 t.1, .int .u8 t.2.1, .int .i64 t.2.2.1, .string t.2.2.2] 76)) g e).2); have ok6 := (HKI.out.2.2.below ((Below.refl _ wr).alloc (Nat.le_refl _) (.cells #[.int .u32 t.1, .int .u8 t.2.1, .int .i64 t.2.2.1, .string t.2.2.2] 76)) (Nat.le_refl _)).below hb6 (Nat.le_refl _); have hbb := HB3.out.trans (hb6.mono HB3.out.size); have H6 := Lib.hid (And.intro o6 (And.intro kz6 (And.intro ok6 hbb))); clear o6 kz6 ok6 hbb hb6)
            have hE := Lib.hid (show CtI w1 (cH H v.id (cV H [] (H.take j)) (v.L.take (k + 1))) (.slice ao3 (cH H v.id (cV H [] (H.take j)) (v.L.take k)).length cap3) w6 ∧ w6.heap[z]? = some (.cells #[.int .u32 v.id, .bool v.th, .slice v.po v.pl v.pc, .slice v.ho m v.hc] 28 (0, 0)) ∧ v.ok w6 from by
              rw [HSt.out]
              exact ⟨⟨H6.out.1, H6.out.2.2.2⟩, H6.out.2.1, H6.out.2.2.1⟩)
            rw [HHO.out] at hE
            go_roundw
            case rel => exact ⟨k + 1, by omega, by go_num, hE⟩
            case measure => simp [intOf] <;> omega
        · obtain rfl : k = m := by omega
          have hE := Lib.hid (show CtI w1 (cV H [] (H.take (j + 1))) (.slice ao3 (cH H v.id (cV H [] (H.take j)) (v.L.take k)).length cap3) wr from by
            rw [take_next HS.out, cV_snoc]
            have h := HKI.out.1
            have e : v.L.take k = v.L := List.take_of_length_le (by rw [HM.out]; exact Nat.le_refl _)
            rw [e] at h ⊢
            exact h)
          go_wp2_with fail
          go_roundw
          case rel => exact ⟨j + 1, by omega, by go_num, hE⟩
          case measure => simp [intOf] <;> omega
    · obtain rfl : j = n := by omega
      obtain ⟨ao3, cap3, ev3, _, _⟩ := own_slice HA.out.1
      subst ev3
      have hE := Lib.hid (show CutsOf (cV H [] H) w (.returned (.slice ao3 (cV H [] H).length cap3)) wr from by
        have h := HA.out
        rw [List.take_of_length_le (by rw [HN.out]; exact Nat.le_refl _)] at h
        exact ⟨ao3, cap3, rfl, v_low h.1 H1.out.2.size, H1.out.2.trans (h.2.mono H1.out.2.size)⟩)
      have hlen : (cV H [] (H.take j)).length = (cV H [] H).length := by rw [List.take_of_length_le (by rw [HN.out]; exact Nat.le_refl _)]
      rw [hlen]
      clear hlen
      go_wp2_with fail
      go_ret
      exact hE.out
end Go.Proofs.Ytgjjfodogkcmmaa.Gh
