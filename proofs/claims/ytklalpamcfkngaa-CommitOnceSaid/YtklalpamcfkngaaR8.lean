/- commit: the document's Owing, walked. -/
import Derived.Test.YtklalpamcfkngaaR7
namespace Go.Proofs.Ytklalpamcfkngaa.Cm
open Go Go.RowKit
/-- From whom something is awaited. -/
def cnd (m : RunM) (j : Nat) : Bool := (m.s == 1 && !m.v j) || (m.s == 3 && !m.a j)
def oL (m : RunM) (k : Nat) : List Int := (((nodesL m).take k).filter (cnd m)).map fun i : Nat => (i : Int)
theorem oL_succ {m : RunM} {k j : Nat} (h : (nodesL m)[k]? = some j) : oL m (k + 1) = oL m k ++ if cnd m j = true then [(j : Int)] else [] := by
  unfold oL
  rw [List.take_add_one, h, List.filter_append, List.map_append]
  by_cases hc : cnd m j = true <;> simp [hc]
theorem oL_len (m : RunM) (k : Nat) : (oL m k).length ≤ k := by
  unfold oL
  rw [List.length_map]
  exact Nat.le_trans (List.length_filter_le _ _) (List.length_take_le _ _)
theorem oL_all (m : RunM) : oL m (nl m) = owL (some m) := by
  unfold oL owL nl
  rw [List.take_length]
  unfold nodesL wo
  rw [List.filter_filter]
  show List.map _ _ = if m.s = 1 then List.map _ _ else if m.s = 3 then List.map _ _ else []
  by_cases h1 : m.s = 1
  · simp only [h1, if_true]
    congr 1
    refine List.filter_congr (fun i _ => ?_)
    simp [cnd, h1, Bool.and_comm]
  · by_cases h3 : m.s = 3
    · rw [if_neg h1, if_pos h3]
      congr 1
      refine List.filter_congr (fun i _ => ?_)
      simp [cnd, h3, Bool.and_comm]
    · simp only [h1, h3, if_false]
      have : (List.range 4).filter (fun a => cnd m a && m.n a) = [] := List.filter_eq_nil_iff.2 (fun i _ => by simp [cnd, h1, h3])
      rw [this]; rfl
section
variable {w : World} {B q : Nat} {F : Nat → Prop} {rv tv : Value} {CL : List RC} {TT : TL} {t : TK}
theorem rowing_none (h : RefAt w B F q rv tv CL TT) (hn : ∀ c ∈ CL, eqK c.t t = false) (hl : CL.length ≤ 1000000) :
    Calls Try.prog 29 #[.pointer (some ⟨q, 0, none⟩), .agg #[.int .u8 t.1, .int .u32 t.2.1, .int .u32 t.2.2]] w fun e w' => e = .returned (.slice none 0 0) ∧ Below w.heap.size w w' := by
  have hb0 := Lib.hid ((Below.refl _ w).alloc (Nat.le_refl _) (.cells #[.int .u8 t.1, .int .u32 t.2.1, .int .u32 t.2.2] 33))
  have H1 := Lib.hid (And.intro (h.below hb0.out) hn)
  clear h hn
  go_enter Try.func29, Try.ntmps29
  go_wp2_with (go_at_call 38; refine (run_miss H1.out.1 H1.out.2 hl).mono ?_; rintro e w1 ⟨rfl, hb⟩; have H2 := Lib.hid (hb0.out.trans (hb.mono hb0.out.size)); clear hb)
  go_ret
  exact ⟨rfl, H2.out⟩
theorem rowing_nil (t : TK) (w : World) :
    Calls Try.prog 29 #[.pointer none, .agg #[.int .u8 t.1, .int .u32 t.2.1, .int .u32 t.2.2]] w fun e w' => e = .returned (.slice none 0 0) ∧ Below w.heap.size w w' := by
  have hb0 := Lib.hid ((Below.refl _ w).alloc (Nat.le_refl _) (.cells #[.int .u8 t.1, .int .u32 t.2.1, .int .u32 t.2.2] 33))
  go_enter Try.func29, Try.ntmps29
  go_wp2_with (go_at_call 38; refine (run_nil t _).mono ?_; rintro e w1 ⟨rfl, hb⟩; have H2 := Lib.hid (hb0.out.trans (hb.mono hb0.out.size)); clear hb)
  go_ret
  exact ⟨rfl, H2.out⟩
def OwI (m : RunM) (W0 : World) (k : Nat) (v : Value) (wr : World) : Prop := wr.ownsRow W0.heap.size 5 1 v (oL m k).length (u8s (oL m k)) ∧ Below W0.heap.size W0 wr
theorem block7 {w : World} {b : Nat} {c : RC} (h : w.heap[b]? = some (.cells #[.int .u8 c.t.1, .int .u32 c.t.2.1, .int .u32 c.t.2.2, .slice (some ⟨c.gn, 0, none⟩) (nl c.m) c.cn, .slice (some ⟨c.gy, 0, none⟩) (nl c.m) (nl c.m), .slice (some ⟨c.gd, 0, none⟩) (nl c.m) (nl c.m), .int .i64 c.m.s] 85 (0, 0))) : w.cell? ⟨b, 4, none⟩ = some (.slice (some ⟨c.gy, 0, none⟩) (nl c.m) (nl c.m)) ∧ w.cell? ⟨b, 5, none⟩ = some (.slice (some ⟨c.gd, 0, none⟩) (nl c.m) (nl c.m)) ∧ w.cell? ⟨b, 6, none⟩ = some (.int .i64 c.m.s) := by
  simp [World.cell?, h]
set_option maxRecDepth 100000 in
set_option maxHeartbeats 8000000 in
theorem rowing_some (h : RefAt w B F q rv tv CL TT) {i : Nat} {c : RC} (hc : CL[i]? = some c) (ht : c.t = t) (hl : CL.length ≤ 1000000) :
    Calls Try.prog 29 #[.pointer (some ⟨q, 0, none⟩), .agg #[.int .u8 t.1, .int .u32 t.2.1, .int .u32 t.2.2]] w fun e w' => OwR w (owL (some c.m)) e w' := by
  obtain ⟨i0, hi0, hz0, hz1, hz2⟩ := info_parts info5
  have HI := Lib.hid (And.intro hi0 (And.intro hz0 (And.intro hz1 hz2)))
  clear hi0 hz0 hz1 hz2
  have hb0 := Lib.hid ((Below.refl _ w).alloc (Nat.le_refl _) (.cells #[.int .u8 t.1, .int .u32 t.2.1, .int .u32 t.2.2] 33))
  have H1 := Lib.hid (And.intro (h.below hb0.out) (And.intro hc (And.intro ht trivial)))
  obtain ⟨g, cap, hrv, _⟩ := h.at hc
  have hil := (List.getElem?_eq_some_iff.1 hc).1
  have hn4 := nl_le c.m
  have HRV := Lib.hid hrv
  clear h hc ht hrv 
  obtain ⟨L, hL⟩ : ∃ L, CL.length = L := ⟨_, rfl⟩
  have HL := Lib.hid hL
  rw [hL] at hl hil
  clear hL
  obtain ⟨s, hs⟩ : ∃ s, c.m.s = s := ⟨_, rfl⟩
  have HS := Lib.hid hs
  clear hs
  by_cases h1 : s = 1
  · subst h1
    go_enter Try.func29, Try.ntmps29
    go_upto_region 6 with (go_at_call 38; refine (run_hit H1.out.1 H1.out.2.1 H1.out.2.2.1 (by rw [HL.out]; exact hl)).mono ?_; rintro e w1 ⟨rfl, hb⟩; have H2 := Lib.hid (hb0.out.trans (hb.mono hb0.out.size)); have H3 := Lib.hid (H1.out.1.below hb); have q0 := H3.out.cells.1; obtain ⟨g', cap', e', ⟨⟨c0, c1, c2⟩, c3, c4, c5, c6⟩⟩ := H3.out.at H1.out.2.1; rw [HRV.out] at e'; cases e'; rw [HRV.out, HL.out] at q0; clear hb)
    have hbx : Below w1.heap.size w1 (w1.alloc (.cells #[.int .u8 c.t.1, .int .u32 c.t.2.1, .int .u32 c.t.2.2, .slice (some ⟨c.gn, 0, none⟩) (nl c.m) c.cn, .slice (some ⟨c.gy, 0, none⟩) (nl c.m) (nl c.m), .slice (some ⟨c.gd, 0, none⟩) (nl c.m) (nl c.m), .int .i64 c.m.s] 85)) := (Below.refl _ w1).alloc (Nat.le_refl _) _
    have H4 := Lib.hid (H2.out.trans (hbx.mono H2.out.size))
    have H5 := Lib.hid (H3.out.below hbx)
    have HBX := Lib.hid (And.intro (heap_alloc_new w1 (.cells #[.int .u8 c.t.1, .int .u32 c.t.2.1, .int .u32 c.t.2.2, .slice (some ⟨c.gn, 0, none⟩) (nl c.m) c.cn, .slice (some ⟨c.gy, 0, none⟩) (nl c.m) (nl c.m), .slice (some ⟨c.gd, 0, none⟩) (nl c.m) (nl c.m), .int .i64 c.m.s] 85)) (show w1.heap.size < (w1.alloc (.cells #[.int .u8 c.t.1, .int .u32 c.t.2.1, .int .u32 c.t.2.2, .slice (some ⟨c.gn, 0, none⟩) (nl c.m) c.cn, .slice (some ⟨c.gy, 0, none⟩) (nl c.m) (nl c.m), .slice (some ⟨c.gd, 0, none⟩) (nl c.m) (nl c.m), .int .i64 c.m.s] 85)).heap.size from by simp))
    clear hbx c0 c1 c2 c3 c4 c5 c6
    go_wp2
    generalize (w1.alloc (.cells #[.int .u8 c.t.1, .int .u32 c.t.2.1, .int .u32 c.t.2.2, .slice (some ⟨c.gn, 0, none⟩) (nl c.m) c.cn, .slice (some ⟨c.gy, 0, none⟩) (nl c.m) (nl c.m), .slice (some ⟨c.gd, 0, none⟩) (nl c.m) (nl c.m), .int .i64 c.m.s] 85)) = W0 at H4 H5 HBX ⊢
    have H0 := Lib.hid (show OwI c.m W0 0 (.slice none 0 0) W0 from ⟨World.ownsRow_nil _ _ _ _, Below.refl _ _⟩)
    go_loopw [5, 25] (fun v u wr => ∃ k : Nat, k ≤ nl c.m ∧ u = .int .i64 k ∧ Hid (OwI c.m W0 k v wr)) (fun _ u _ => nl c.m - (intOf u).toNat)
    case atStart => exact ⟨0, by omega, rfl, H0⟩
    case round =>
      obtain ⟨k, hk, rfl, HR⟩ := hrel
      clear H0
      by_cases hlt : k < nl c.m
      · obtain ⟨j, hj⟩ : ∃ j, (nodesL c.m)[k]? = some j := ⟨_, List.getElem?_eq_getElem hlt⟩
        have hjn : (nodesI c.m)[k]? = some (j : Int) := by simp [nodesI, hj]
        have HRF := Lib.hid (H5.out.below HR.out.2)
        obtain ⟨_, off, e, _, cn⟩ := (rd_nodes HRF.out (List.mem_of_getElem? H1.out.2.1)) k j hjn
        cases e
        rw [Nat.zero_add] at cn
        have dy := (yes_at HRF.out (List.mem_of_getElem? H1.out.2.1) hj).1
        have dd := (did_at HRF.out (List.mem_of_getElem? H1.out.2.1) hj).1
        obtain ⟨b4, b5, b6⟩ := block7 ((HR.out.2.block _ HBX.out.2).trans HBX.out.1)
        rw [HS.out] at b6
        have hsuc := oL_succ hj
        have hcn : cnd c.m j = (((1 : Int) == 1 && !c.m.v j) || ((1 : Int) == 3 && !c.m.a j)) := by unfold cnd; rw [HS.out]
        rw [hcn] at hsuc
        obtain ⟨vj, hvj⟩ : ∃ vj, c.m.v j = vj := ⟨_, rfl⟩
        obtain ⟨aj, haj⟩ : ∃ aj, c.m.a j = aj := ⟨_, rfl⟩
        rw [hvj] at dy hsuc
        rw [haj] at dd hsuc
        have hlen := oL_len c.m k
        have HSU := Lib.hid hsuc
        obtain ⟨lo, cap2, ev, _, _⟩ := own_slice HR.out.1
        subst ev
        obtain ⟨l, hl2⟩ : ∃ l, oL c.m k = l := ⟨_, rfl⟩
        have HLL := Lib.hid hl2
        have HO := Lib.hid (show wr.ownsRow W0.heap.size 5 1 (.slice lo l.length cap2) l.length (u8s l) from by have h2 := HR.out.1; rw [HLL.out] at h2; exact h2)
        rw [hl2] at hlen ⊢
        clear hsuc hcn hvj haj hj hjn hl2
        cases vj <;> cases aj
        all_goals
          go_wp2_with (at_builtin; refine wpList_append_own _ rfl (.tmp 54) (.tmp 56) 34 rfl W0.heap.size 5 i0 _ 1 1 Try.underlying34 HI.out.1 HI.out.2.1 HI.out.2.2.1 HI.out.2.2.2 rfl (by decide) (.slice lo l.length cap2) l.length (u8s l) rfl (HO.out.alloc _) ⟨wr.heap.size, 0, none⟩ 1 1 [.int .u8 j] rfl rfl (new1 _ wr 5) (one_u8 _) (by unfold maxLen; omega) (by omega) (by have := HR.out.2.size; simp; omega) ?_; intro v3 w3 hown3 hgrow3 hnil3; have HG := Lib.hid (And.intro hown3 hgrow3); clear hown3 hgrow3 hnil3)
          go_roundw
          case measure => simp [intOf]; omega
          case rel =>
            refine ⟨k + 1, by omega, by go_num, Lib.hid ?_⟩
            have h := HSU.out
            rw [HLL.out] at h
            first
              | (have hh := HG; clear hh; refine ⟨?_, (HR.out.2.alloc HR.out.2.size (.cells #[.int .u8 j] 5)).grown HG.out.2 (by have := HR.out.2.size; simp; omega) (fun q e => (own_obj HO.out e).1)⟩; rw [h]; have h6 := HG.out.1; simpa [u8s] using h6)
              | (refine ⟨?_, HR.out.2⟩; rw [h]; simpa using HO.out)
      · have HE := Lib.hid (show k = nl c.m by omega)
        have hr1 := HR.out.1
        rw [HE.out, oL_all] at hr1
        have HF := Lib.hid hr1
        clear hr1
        go_wp2
        go_ret
        exact ⟨_, rfl, own_base HF.out H4.out.size, H4.out.trans (HR.out.2.mono H4.out.size)⟩
  · by_cases h3 : s = 3
    · subst h3
      go_enter Try.func29, Try.ntmps29
      go_upto_region 6 with (go_at_call 38; refine (run_hit H1.out.1 H1.out.2.1 H1.out.2.2.1 (by rw [HL.out]; exact hl)).mono ?_; rintro e w1 ⟨rfl, hb⟩; have H2 := Lib.hid (hb0.out.trans (hb.mono hb0.out.size)); have H3 := Lib.hid (H1.out.1.below hb); have q0 := H3.out.cells.1; obtain ⟨g', cap', e', ⟨⟨c0, c1, c2⟩, c3, c4, c5, c6⟩⟩ := H3.out.at H1.out.2.1; rw [HRV.out] at e'; cases e'; rw [HRV.out, HL.out] at q0; clear hb)
      have hbx : Below w1.heap.size w1 (w1.alloc (.cells #[.int .u8 c.t.1, .int .u32 c.t.2.1, .int .u32 c.t.2.2, .slice (some ⟨c.gn, 0, none⟩) (nl c.m) c.cn, .slice (some ⟨c.gy, 0, none⟩) (nl c.m) (nl c.m), .slice (some ⟨c.gd, 0, none⟩) (nl c.m) (nl c.m), .int .i64 c.m.s] 85)) := (Below.refl _ w1).alloc (Nat.le_refl _) _
      have H4 := Lib.hid (H2.out.trans (hbx.mono H2.out.size))
      have H5 := Lib.hid (H3.out.below hbx)
      have HBX := Lib.hid (And.intro (heap_alloc_new w1 (.cells #[.int .u8 c.t.1, .int .u32 c.t.2.1, .int .u32 c.t.2.2, .slice (some ⟨c.gn, 0, none⟩) (nl c.m) c.cn, .slice (some ⟨c.gy, 0, none⟩) (nl c.m) (nl c.m), .slice (some ⟨c.gd, 0, none⟩) (nl c.m) (nl c.m), .int .i64 c.m.s] 85)) (show w1.heap.size < (w1.alloc (.cells #[.int .u8 c.t.1, .int .u32 c.t.2.1, .int .u32 c.t.2.2, .slice (some ⟨c.gn, 0, none⟩) (nl c.m) c.cn, .slice (some ⟨c.gy, 0, none⟩) (nl c.m) (nl c.m), .slice (some ⟨c.gd, 0, none⟩) (nl c.m) (nl c.m), .int .i64 c.m.s] 85)).heap.size from by simp))
      clear hbx c0 c1 c2 c3 c4 c5 c6
      go_wp2
      generalize (w1.alloc (.cells #[.int .u8 c.t.1, .int .u32 c.t.2.1, .int .u32 c.t.2.2, .slice (some ⟨c.gn, 0, none⟩) (nl c.m) c.cn, .slice (some ⟨c.gy, 0, none⟩) (nl c.m) (nl c.m), .slice (some ⟨c.gd, 0, none⟩) (nl c.m) (nl c.m), .int .i64 c.m.s] 85)) = W0 at H4 H5 HBX ⊢
      have H0 := Lib.hid (show OwI c.m W0 0 (.slice none 0 0) W0 from ⟨World.ownsRow_nil _ _ _ _, Below.refl _ _⟩)
      go_loopw [5, 25] (fun v u wr => ∃ k : Nat, k ≤ nl c.m ∧ u = .int .i64 k ∧ Hid (OwI c.m W0 k v wr)) (fun _ u _ => nl c.m - (intOf u).toNat)
      case atStart => exact ⟨0, by omega, rfl, H0⟩
      case round =>
        obtain ⟨k, hk, rfl, HR⟩ := hrel
        clear H0
        by_cases hlt : k < nl c.m
        · obtain ⟨j, hj⟩ : ∃ j, (nodesL c.m)[k]? = some j := ⟨_, List.getElem?_eq_getElem hlt⟩
          have hjn : (nodesI c.m)[k]? = some (j : Int) := by simp [nodesI, hj]
          have HRF := Lib.hid (H5.out.below HR.out.2)
          obtain ⟨_, off, e, _, cn⟩ := (rd_nodes HRF.out (List.mem_of_getElem? H1.out.2.1)) k j hjn
          cases e
          rw [Nat.zero_add] at cn
          have dy := (yes_at HRF.out (List.mem_of_getElem? H1.out.2.1) hj).1
          have dd := (did_at HRF.out (List.mem_of_getElem? H1.out.2.1) hj).1
          obtain ⟨b4, b5, b6⟩ := block7 ((HR.out.2.block _ HBX.out.2).trans HBX.out.1)
          rw [HS.out] at b6
          have hsuc := oL_succ hj
          have hcn : cnd c.m j = (((3 : Int) == 1 && !c.m.v j) || ((3 : Int) == 3 && !c.m.a j)) := by unfold cnd; rw [HS.out]
          rw [hcn] at hsuc
          obtain ⟨vj, hvj⟩ : ∃ vj, c.m.v j = vj := ⟨_, rfl⟩
          obtain ⟨aj, haj⟩ : ∃ aj, c.m.a j = aj := ⟨_, rfl⟩
          rw [hvj] at dy hsuc
          rw [haj] at dd hsuc
          have hlen := oL_len c.m k
          have HSU := Lib.hid hsuc
          obtain ⟨lo, cap2, ev, _, _⟩ := own_slice HR.out.1
          subst ev
          obtain ⟨l, hl2⟩ : ∃ l, oL c.m k = l := ⟨_, rfl⟩
          have HLL := Lib.hid hl2
          have HO := Lib.hid (show wr.ownsRow W0.heap.size 5 1 (.slice lo l.length cap2) l.length (u8s l) from by have h2 := HR.out.1; rw [HLL.out] at h2; exact h2)
          rw [hl2] at hlen ⊢
          clear hsuc hcn hvj haj hj hjn hl2
          cases vj <;> cases aj
          all_goals
            go_wp2_with (at_builtin; refine wpList_append_own _ rfl (.tmp 54) (.tmp 56) 34 rfl W0.heap.size 5 i0 _ 1 1 Try.underlying34 HI.out.1 HI.out.2.1 HI.out.2.2.1 HI.out.2.2.2 rfl (by decide) (.slice lo l.length cap2) l.length (u8s l) rfl (HO.out.alloc _) ⟨wr.heap.size, 0, none⟩ 1 1 [.int .u8 j] rfl rfl (new1 _ wr 5) (one_u8 _) (by unfold maxLen; omega) (by omega) (by have := HR.out.2.size; simp; omega) ?_; intro v3 w3 hown3 hgrow3 hnil3; have HG := Lib.hid (And.intro hown3 hgrow3); clear hown3 hgrow3 hnil3)
            go_roundw
            case measure => simp [intOf]; omega
            case rel =>
              refine ⟨k + 1, by omega, by go_num, Lib.hid ?_⟩
              have h := HSU.out
              rw [HLL.out] at h
              first
                | (have hh := HG; clear hh; refine ⟨?_, (HR.out.2.alloc HR.out.2.size (.cells #[.int .u8 j] 5)).grown HG.out.2 (by have := HR.out.2.size; simp; omega) (fun q e => (own_obj HO.out e).1)⟩; rw [h]; have h6 := HG.out.1; simpa [u8s] using h6)
                | (refine ⟨?_, HR.out.2⟩; rw [h]; simpa using HO.out)
        · have HE := Lib.hid (show k = nl c.m by omega)
          have hr1 := HR.out.1
          rw [HE.out, oL_all] at hr1
          have HF := Lib.hid hr1
          clear hr1
          go_wp2
          go_ret
          exact ⟨_, rfl, own_base HF.out H4.out.size, H4.out.trans (HR.out.2.mono H4.out.size)⟩
    · have e1 : (s == 1) = false := by simpa using h1
      have e3 : (s == 3) = false := by simpa using h3
      clear h1 h3
      go_enter Try.func29, Try.ntmps29
      go_upto_region 6 with (go_at_call 38; refine (run_hit H1.out.1 H1.out.2.1 H1.out.2.2.1 (by rw [HL.out]; exact hl)).mono ?_; rintro e w1 ⟨rfl, hb⟩; have H2 := Lib.hid (hb0.out.trans (hb.mono hb0.out.size)); have H3 := Lib.hid (H1.out.1.below hb); have q0 := H3.out.cells.1; obtain ⟨g', cap', e', ⟨⟨c0, c1, c2⟩, c3, c4, c5, c6⟩⟩ := H3.out.at H1.out.2.1; rw [HRV.out] at e'; cases e'; rw [HRV.out, HL.out] at q0; clear hb)
      have hbx : Below w1.heap.size w1 (w1.alloc (.cells #[.int .u8 c.t.1, .int .u32 c.t.2.1, .int .u32 c.t.2.2, .slice (some ⟨c.gn, 0, none⟩) (nl c.m) c.cn, .slice (some ⟨c.gy, 0, none⟩) (nl c.m) (nl c.m), .slice (some ⟨c.gd, 0, none⟩) (nl c.m) (nl c.m), .int .i64 c.m.s] 85)) := (Below.refl _ w1).alloc (Nat.le_refl _) _
      have H4 := Lib.hid (H2.out.trans (hbx.mono H2.out.size))
      have H5 := Lib.hid (H3.out.below hbx)
      have HBX := Lib.hid (And.intro (heap_alloc_new w1 (.cells #[.int .u8 c.t.1, .int .u32 c.t.2.1, .int .u32 c.t.2.2, .slice (some ⟨c.gn, 0, none⟩) (nl c.m) c.cn, .slice (some ⟨c.gy, 0, none⟩) (nl c.m) (nl c.m), .slice (some ⟨c.gd, 0, none⟩) (nl c.m) (nl c.m), .int .i64 c.m.s] 85)) (show w1.heap.size < (w1.alloc (.cells #[.int .u8 c.t.1, .int .u32 c.t.2.1, .int .u32 c.t.2.2, .slice (some ⟨c.gn, 0, none⟩) (nl c.m) c.cn, .slice (some ⟨c.gy, 0, none⟩) (nl c.m) (nl c.m), .slice (some ⟨c.gd, 0, none⟩) (nl c.m) (nl c.m), .int .i64 c.m.s] 85)).heap.size from by simp))
      clear hbx c0 c1 c2 c3 c4 c5 c6
      go_wp2
      generalize (w1.alloc (.cells #[.int .u8 c.t.1, .int .u32 c.t.2.1, .int .u32 c.t.2.2, .slice (some ⟨c.gn, 0, none⟩) (nl c.m) c.cn, .slice (some ⟨c.gy, 0, none⟩) (nl c.m) (nl c.m), .slice (some ⟨c.gd, 0, none⟩) (nl c.m) (nl c.m), .int .i64 c.m.s] 85)) = W0 at H4 H5 HBX ⊢
      have H0 := Lib.hid (show OwI c.m W0 0 (.slice none 0 0) W0 from ⟨World.ownsRow_nil _ _ _ _, Below.refl _ _⟩)
      go_loopw [5, 25] (fun v u wr => ∃ k : Nat, k ≤ nl c.m ∧ u = .int .i64 k ∧ Hid (OwI c.m W0 k v wr)) (fun _ u _ => nl c.m - (intOf u).toNat)
      case atStart => exact ⟨0, by omega, rfl, H0⟩
      case round =>
        obtain ⟨k, hk, rfl, HR⟩ := hrel
        clear H0
        by_cases hlt : k < nl c.m
        · obtain ⟨j, hj⟩ : ∃ j, (nodesL c.m)[k]? = some j := ⟨_, List.getElem?_eq_getElem hlt⟩
          have hjn : (nodesI c.m)[k]? = some (j : Int) := by simp [nodesI, hj]
          have HRF := Lib.hid (H5.out.below HR.out.2)
          obtain ⟨_, off, e, _, cn⟩ := (rd_nodes HRF.out (List.mem_of_getElem? H1.out.2.1)) k j hjn
          cases e
          rw [Nat.zero_add] at cn
          have dy := (yes_at HRF.out (List.mem_of_getElem? H1.out.2.1) hj).1
          have dd := (did_at HRF.out (List.mem_of_getElem? H1.out.2.1) hj).1
          obtain ⟨b4, b5, b6⟩ := block7 ((HR.out.2.block _ HBX.out.2).trans HBX.out.1)
          rw [HS.out] at b6
          have hsuc := oL_succ hj
          have hcn : cnd c.m j = (((s : Int) == 1 && !c.m.v j) || ((s : Int) == 3 && !c.m.a j)) := by unfold cnd; rw [HS.out]
          rw [hcn] at hsuc
          simp only [e1, e3, Bool.false_and, Bool.or_false] at hsuc
          obtain ⟨vj, hvj⟩ : ∃ vj, c.m.v j = vj := ⟨_, rfl⟩
          obtain ⟨aj, haj⟩ : ∃ aj, c.m.a j = aj := ⟨_, rfl⟩
          rw [hvj] at dy
          rw [haj] at dd
          have hlen := oL_len c.m k
          have HSU := Lib.hid hsuc
          obtain ⟨lo, cap2, ev, _, _⟩ := own_slice HR.out.1
          subst ev
          obtain ⟨l, hl2⟩ : ∃ l, oL c.m k = l := ⟨_, rfl⟩
          have HLL := Lib.hid hl2
          have HO := Lib.hid (show wr.ownsRow W0.heap.size 5 1 (.slice lo l.length cap2) l.length (u8s l) from by have h2 := HR.out.1; rw [HLL.out] at h2; exact h2)
          rw [hl2] at hlen ⊢
          clear hsuc hcn hvj haj hj hjn hl2
          cases vj <;> cases aj
          all_goals
            go_wp2_with (at_builtin; refine wpList_append_own _ rfl (.tmp 54) (.tmp 56) 34 rfl W0.heap.size 5 i0 _ 1 1 Try.underlying34 HI.out.1 HI.out.2.1 HI.out.2.2.1 HI.out.2.2.2 rfl (by decide) (.slice lo l.length cap2) l.length (u8s l) rfl (HO.out.alloc _) ⟨wr.heap.size, 0, none⟩ 1 1 [.int .u8 j] rfl rfl (new1 _ wr 5) (one_u8 _) (by unfold maxLen; omega) (by omega) (by have := HR.out.2.size; simp; omega) ?_; intro v3 w3 hown3 hgrow3 hnil3; have HG := Lib.hid (And.intro hown3 hgrow3); clear hown3 hgrow3 hnil3)
            go_roundw
            case measure => simp [intOf]; omega
            case rel =>
              refine ⟨k + 1, by omega, by go_num, Lib.hid ?_⟩
              have h := HSU.out
              rw [HLL.out] at h
              first
                | (have hh := HG; clear hh; refine ⟨?_, (HR.out.2.alloc HR.out.2.size (.cells #[.int .u8 j] 5)).grown HG.out.2 (by have := HR.out.2.size; simp; omega) (fun q e => (own_obj HO.out e).1)⟩; rw [h]; have h6 := HG.out.1; simpa [u8s] using h6)
                | (refine ⟨?_, HR.out.2⟩; rw [h]; simpa using HO.out)
        · have HE := Lib.hid (show k = nl c.m by omega)
          have hr1 := HR.out.1
          rw [HE.out, oL_all] at hr1
          have HF := Lib.hid hr1
          clear hr1
          go_wp2
          go_ret
          exact ⟨_, rfl, own_base HF.out H4.out.size, H4.out.trans (HR.out.2.mono H4.out.size)⟩
end
end Go.Proofs.Ytklalpamcfkngaa.Cm
