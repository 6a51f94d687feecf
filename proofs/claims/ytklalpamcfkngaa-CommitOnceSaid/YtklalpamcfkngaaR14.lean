/- commit: the document's Doubt, SameTxs, walked. -/
import Derived.Test.YtklalpamcfkngaaR12
namespace Go.Proofs.Ytklalpamcfkngaa.Cm
open Go Go.RowKit
theorem len3 (t : TK) : (encK t).length = 3 := rfl
/-- Those that are held. -/
def dL (TT : TL) : List TK := (TT.filter fun e => e.2 == 2).map (·.1)
theorem info33 : (Try.prog.info? 33).map (fun i => (i.zero, i.size, i.bytes)) = some (some (.agg #[.int .u8 0, .int .u32 0, .int .u32 0]), 3, 12) := by kernel_rfl
theorem oneK (t : TK) : ∀ u ∈ encK t, u.oneCell' = true := by
  intro u hu
  simp [encK] at hu
  rcases hu with rfl | rfl | rfl <;> rfl
theorem newsK (w : World) (t : TK) : ∀ j u, (encK t)[j]? = some u → (w.alloc (.cells #[.int .u8 t.1, .int .u32 t.2.1, .int .u32 t.2.2] 33)).cell? ((⟨w.heap.size, 0, none⟩ : Addr).add j) = some u :=
  World.news_of_block (heap_alloc_new w (.cells #[.int .u8 t.1, .int .u32 t.2.1, .int .u32 t.2.2] 33))
/-- A list of names of the call's own. -/
def OwnK (w : World) (B : Nat) (v : Value) (L : List TK) : Prop := w.ownsRow B 33 3 v L.length (L.flatMap encK)
def DkR (w : World) (L : List TK) (e : Ending) (w' : World) : Prop := ∃ v, e = .returned v ∧ OwnK w' w.heap.size v L ∧ Below w.heap.size w w'
theorem rdoubt_nil (w : World) : Calls Try.prog 33 #[.pointer none] w fun e w' => e = .returned (.slice none 0 0) ∧ w = w' := by
  go_enter Try.func33, Try.ntmps33
  go_wp2
  refine wp_loop_rounds 1 ?_
  rw [rounds_succ]
  go_wp2
  go_ret
  exact ⟨rfl, rfl⟩
theorem dL_succ {TT : TL} {k : Nat} {e : TK × Int} (h : TT[k]? = some e) : dL (TT.take (k + 1)) = dL (TT.take k) ++ if (e.2 == 2) = true then [e.1] else [] := by
  unfold dL
  rw [List.take_add_one, h, List.filter_append, List.map_append]
  by_cases hc : (e.2 == 2) = true <;> simp [hc]
theorem dL_len (TT : TL) (k : Nat) : (dL (TT.take k)).length ≤ k := by
  unfold dL
  rw [List.length_map]
  exact Nat.le_trans (List.length_filter_le _ _) (List.length_take_le _ _)
def DkI (W0 : World) (TT : TL) (k : Nat) (v : Value) (wr : World) : Prop := OwnK wr W0.heap.size v (dL (TT.take k)) ∧ Below W0.heap.size W0 wr
section
variable {w : World} {B q : Nat} {F : Nat → Prop} {rv tv : Value} {CL : List RC} {TT : TL}
set_option maxRecDepth 100000 in
set_option maxHeartbeats 4000000 in
theorem rdoubt_any (h : RefAt w B F q rv tv CL TT) (hl : TT.length ≤ 1000000) :
    Calls Try.prog 33 #[.pointer (some ⟨q, 0, none⟩)] w fun e w' => DkR w (dL TT) e w' := by
  obtain ⟨i0, hi0, hz0, hz1, hz2⟩ := info_parts info33
  have HI := Lib.hid (And.intro hi0 (And.intro hz0 (And.intro hz1 hz2)))
  clear hi0 hz0 hz1 hz2
  obtain ⟨N, hN⟩ : ∃ N, TT.length = N := ⟨_, rfl⟩
  rw [hN] at hl
  have HN := Lib.hid hN
  have H1 := Lib.hid h
  clear h hN
  have H0 := Lib.hid (show DkI w TT 0 (.slice none 0 0) w from ⟨World.ownsRow_nil _ _ _ _, Below.refl _ _⟩)
  go_enter Try.func33, Try.ntmps33
  go_wp2
  go_loopw [3, 4] (fun v u wr => ∃ k : Nat, k ≤ N ∧ u = .int .i64 k ∧ Hid (DkI w TT k v wr)) (fun _ u _ => N - (intOf u).toNat)
  case atStart => exact ⟨0, by omega, rfl, H0⟩
  case round =>
    obtain ⟨k, hk, rfl, HR⟩ := hrel
    clear H0
    obtain ⟨lo, cap2, ev, _, _⟩ := own_slice HR.out.1
    subst ev
    have HRF := Lib.hid (H1.out.below HR.out.2)
    obtain ⟨q0, q1⟩ := HRF.out.cells
    by_cases hlt : k < N
    · obtain ⟨e, he⟩ : ∃ e, TT[k]? = some e := ⟨_, List.getElem?_eq_getElem (by rw [HN.out]; exact hlt)⟩
      obtain ⟨g, cap, e3, hat⟩ := HRF.out.tat he
      rw [e3, HN.out] at q1
      obtain ⟨⟨c0, c1, c2⟩, c3⟩ := hat
      have hsuc := dL_succ he
      have hlen := dL_len TT k
      obtain ⟨R, hR⟩ : ∃ R, dL (TT.take k) = R := ⟨_, rfl⟩
      have HRR := Lib.hid hR
      have HO := Lib.hid (show wr.ownsRow w.heap.size 33 3 (.slice lo R.length cap2) R.length (R.flatMap encK) from by have h := HR.out.1; rw [HRR.out] at h; exact h)
      rw [hR] at hlen ⊢
      clear e3 he hR
      by_cases h2 : e.2 = 2
      · have hb : (e.2 == 2) = true := by simpa using h2
        rw [hb, if_pos rfl] at hsuc
        have HSU := Lib.hid hsuc
        clear hsuc h2
        go_wp2_with (at_builtin; refine wpList_append_lies _ rfl (.tmp 27) (.tmp 36) 67 rfl w.heap.size 33 i0 _ 3 12 Try.underlying67 HI.out.1 HI.out.2.1 HI.out.2.2.1 HI.out.2.2.2 rfl (by decide) (.slice lo R.length cap2) R.length (R.flatMap encK) rfl (HO.out.alloc _) ⟨wr.heap.size, 0, none⟩ 1 1 (encK e.1) rfl rfl (newsK wr e.1) (oneK _) (by decide) (by unfold maxLen; omega) (by omega) (by have := HR.out.2.size; simp; omega) _ rfl ?_; intro g5 c5 w5 hown hgrow _ _; have HG := Lib.hid (And.intro hown hgrow); clear hown hgrow)
        go_roundw
        case measure => simp [intOf]; omega
        case rel =>
          refine ⟨k + 1, by omega, by go_num, Lib.hid ⟨?_, (HR.out.2.alloc HR.out.2.size (.cells #[.int .u8 e.1.1, .int .u32 e.1.2.1, .int .u32 e.1.2.2] 33)).grown HG.out.2 (by have := HR.out.2.size; simp; omega) (fun q hq => (own_obj HO.out hq).1)⟩⟩
          have h := HSU.out
          rw [HRR.out] at h
          rw [h]
          unfold OwnK
          rw [List.length_append, List.flatMap_append]
          simpa using HG.out.1
      · have hb : (e.2 == 2) = false := by simpa using h2
        rw [hb, if_neg (by decide), List.append_nil] at hsuc
        have HSU := Lib.hid hsuc
        clear hsuc h2
        go_wp2
        go_roundw
        case measure => simp [intOf]; omega
        case rel =>
          refine ⟨k + 1, by omega, by go_num, Lib.hid ⟨?_, HR.out.2⟩⟩
          have h := HSU.out
          rw [HRR.out] at h
          rw [h]
          exact HO.out
    · obtain rfl : k = N := by omega
      obtain ⟨ao, cap, e, _, _⟩ := own_slice HRF.out.trow
      rw [e, HN.out] at q1
      have hf := HR.out.1
      rw [List.take_of_length_le (by rw [HN.out]; exact Nat.le_refl _)] at hf ⊢
      have HF := Lib.hid hf
      clear e hf
      go_wp2
      go_ret
      exact ⟨_, rfl, HF.out, HR.out.2⟩
end
/-- Names that stand from an address on. -/
def RdK (w : World) (ao : Option Addr) (L : List TK) : Prop := ∀ (i : Nat) (t : TK), L[i]? = some t → ∃ g, ao = some ⟨g, 0, none⟩ ∧ w.cell? ⟨g, i * 3, none⟩ = some (.int .u8 t.1) ∧ w.cell? ⟨g, i * 3 + 1, none⟩ = some (.int .u32 t.2.1) ∧ w.cell? ⟨g, i * 3 + 2, none⟩ = some (.int .u32 t.2.2)
theorem rdk_own {w : World} {B n cap : Nat} {ao : Option Addr} {L : List TK} (h : OwnK w B (.slice ao n cap) L) : n = L.length ∧ RdK w ao L := by
  obtain ⟨ao2, cap2, e, _, h2⟩ := own_slice h
  simp only [Value.slice.injEq] at e
  obtain ⟨rfl, e, _⟩ := e
  refine ⟨e, fun i t ht => ?_⟩
  have hx : ∀ j v, (encK t)[j]? = some v → (L.flatMap encK)[i * 3 + j]? = some v := fun j v hv => by
    rw [fm_at len3 ht (by have := (List.getElem?_eq_some_iff.1 hv).1; rwa [len3] at this)]; exact hv
  obtain ⟨g, hg, _, h0⟩ := h2 (i * 3 + 0) _ (hx 0 _ rfl)
  subst hg
  obtain ⟨g1, e1, _, h1⟩ := h2 (i * 3 + 1) _ (hx 1 _ rfl)
  obtain ⟨g3, e3, _, h3⟩ := h2 (i * 3 + 2) _ (hx 2 _ rfl)
  cases e1
  cases e3
  exact ⟨g, rfl, h0, h1, h3⟩
set_option maxHeartbeats 2000000 in
theorem sameK_any (ao bo : Option Addr) (n ca cb : Nat) (L : List TK) (w : World) (hn : L.length = n) (hl : n ≤ 1000000) (ha : RdK w ao L) (hb : RdK w bo L) :
    Calls Try.prog 32 #[.slice ao n ca, .slice bo n cb] w fun e w' => e = .returned (.bool true) ∧ Below w.heap.size w w' := by
  have HL := Lib.hid (And.intro hn (And.intro ha hb))
  clear hn ha hb
  have hg := guard33
  have he := neq33
  have H0 := Lib.hid (show Below w.heap.size w w from Below.refl _ _)
  go_enter Try.func32, Try.ntmps32
  go_wp2
  go_loopw [13] (fun u wr => ∃ k : Nat, k ≤ n ∧ u = .int .i64 k ∧ Hid (wr.heap = w.heap ∧ Below w.heap.size w wr)) (fun u _ => n - (intOf u).toNat)
  case atStart => exact ⟨0, by omega, rfl, Lib.hid ⟨rfl, H0.out⟩⟩
  case round =>
    obtain ⟨k, hk, rfl, HR⟩ := hrel
    clear H0
    by_cases hlt : k < n
    · obtain ⟨t, ht⟩ : ∃ t, L[k]? = some t := ⟨_, List.getElem?_eq_getElem (by rw [HL.out.1]; exact hlt)⟩
      obtain ⟨g, rfl, a0, a1, a2⟩ := HL.out.2.1 k t ht
      obtain ⟨g2, rfl, b0, b1, b2⟩ := HL.out.2.2 k t ht
      have ce : ∀ x, wr.cell? x = w.cell? x := fun x => by simp [World.cell?, HR.out.1]
      rw [← ce] at a0 a1 a2 b0 b1 b2
      clear ht ce
      have hq : (!(t.1 == t.1 && (t.2.1 == t.2.1 && t.2.2 == t.2.2))) = false := by simp
      go_upto_region 6 with fail
      go_quiet (fail)
      go_wp2
      have HR2 := Lib.hid (show (wr.drewN nq).heap = w.heap ∧ Below w.heap.size w (wr.drewN nq) from ⟨HR.out.1, HR.out.2.trans ((drewN_below wr nq).mono HR.out.2.size)⟩)
      go_roundw
      case rel => exact ⟨k + 1, by omega, by go_num, HR2⟩
      case measure => simp [intOf]; omega
    · obtain rfl : k = n := by omega
      go_wp2
      go_ret
      exact ⟨rfl, HR.out.2⟩
end Go.Proofs.Ytklalpamcfkngaa.Cm
