/- bag: All. -/
import Derived.Test.YthjcllgjojldjaaA7
namespace Go.Proofs.Ythjcllgjojldjaa.Bg
open Go Go.RowKit
/-- A list of messages of the call's own, each in a block of its own. -/
structure NewRow (w : World) (B : Nat) (v : Value) (M : List Mg) : Prop where
  row : w.ownsRow B 30 1 v M.length (rowM M)
  msg : ∀ m ∈ M, MgAt w m ∧ B ≤ m.g
theorem NewRow.below {w w' : World} {B : Nat} {v : Value} {M : List Mg} (h : NewRow w B v M) (hb : Below w.heap.size w w') : NewRow w' B v M :=
  ⟨own_on h.row (fun g hg => hb.block g (World.ownsRow.lt h.row g hg).2), fun m hm => ⟨(h.msg m hm).1.on (hb.block m.g (h.msg m hm).1.lt), (h.msg m hm).2⟩⟩
theorem all_nil (w : World) : Calls Try.prog 11 #[.pointer none] w fun e w' => e = .returned (.slice none 0 0) ∧ w = w' := by
  have hl := len_nil w
  go_enter Try.func11, Try.ntmps11
  go_wp2_with (refine hl.mono ?_; rintro e w' ⟨rfl, rfl⟩)
  refine wp_loop_rounds 1 ?_
  rw [rounds_succ]
  go_wp2
  go_ret
  exact ⟨rfl, rfl⟩
set_option maxHeartbeats 4000000 in
theorem all_any {B : Nat} {w : World} {X : Bx} (h : BagAt 50 B w X) : Calls Try.prog 11 #[.pointer (some ⟨X.p, 0, none⟩)] w fun e w' => ∃ v M, e = .returned v ∧ NewRow w' w.heap.size v M ∧ M.map Mg.l = X.M.map Mg.l ∧ Below w.heap.size w w' := by
  have hl := len_any h
  have hfew := h.few
  obtain ⟨p, v, N⟩ := X
  obtain ⟨i0, hi0, hz0, hz1, hz2⟩ := info_parts info30
  have HI := Lib.hid (And.intro hi0 (And.intro hz0 (And.intro hz1 hz2)))
  clear hi0 hz0 hz1 hz2
  have H := Lib.hid h
  simp only at hfew hl
  clear h
  generalize hnn : N.length = n at *
  have HN := Lib.hid hnn
  clear hnn
  have hf : (n : Int) ≤ 2000 := by omega
  go_enter Try.func11, Try.ntmps11
  go_wp2_with fail
  refine hl.mono ?_
  rintro e w1 ⟨rfl, rfl⟩
  go_wp2_with fail
  go_loopw [3, 7] (fun o x wr => ∃ (i k cap : Nat) (ao : Option Addr), x = .int .i64 i ∧ o = .slice ao k cap ∧ k = i ∧ i ≤ n ∧ Hid (∃ M, M.length = i ∧ NewRow wr w.heap.size (.slice ao k cap) M ∧ M.map Mg.l = (N.map Mg.l).take i) ∧ Hid (Below w.heap.size w wr)) (fun _ x _ => n + 1 - (intOf x).toNat)
  case atStart => exact ⟨0, 0, 0, none, rfl, rfl, rfl, Nat.zero_le _, Lib.hid ⟨[], rfl, ⟨World.ownsRow_nil _ _ _ _, fun m hm => (by cases hm)⟩, rfl⟩, Lib.hid (.refl _ _)⟩
  case round =>
    obtain ⟨i, k, cap, ao, rfl, rfl, hk, hi, HM, HB⟩ := hrel
    by_cases hin : i < n
    · obtain ⟨m, hm⟩ : ∃ m, N[i]? = some m := ⟨_, List.getElem?_eq_getElem (by have := HN.out; omega)⟩
      have hX := H.out.below HB.out
      have c0 := hX.c0
      obtain ⟨g, gcap, hv, _, _, hnc, hcm, hc⟩ := row_at hX.row (rowM_at hm)
      simp only at hv c0 hnc
      rw [HN.out] at hv hnc
      rw [hv] at c0
      have hmm := hX.msg m (List.mem_of_getElem? hm)
      have hC := clone_any ⟨m.g, 0, none⟩ m.l.length m.cap m.l wr (by have := hmm.few; omega) rfl hmm.pos hmm.rd
      unfold GivesS at hC
      unfold mv at hc
      have HMm := Lib.hid (And.intro hm hmm)
      have hi1 : i + 1 ≤ n := hin
      have hi2 : i ≤ 2000 := by omega
      obtain ⟨M, hML, hMR, hMl⟩ := HM.out
      have HMM := Lib.hid (And.intro hML (And.intro hMR hMl))
      have hml : m.l.length ≤ 16384 := hmm.few
      clear hX hv hmm hm HM hML hMR hMl hi
      generalize hxl : m.l.length = x at *
      have HXL := Lib.hid hxl
      clear hxl
      go_wp2_with fail
      refine hC.mono ?_
      rintro e w2 ⟨g2, c2, rfl, ⟨ho2, hr2⟩, hb2⟩
      have HB2 := Lib.hid hb2
      have HO2 := Lib.hid ho2
      have HR2 := Lib.hid (HMM.out.2.1.below hb2)
      have hO3 := Lib.hid ((HR2.out.row).alloc (.cells #[.slice (some ⟨g2, 0, none⟩) x c2] 30))
      rw [HMM.out.1] at hO3
      subst hk
      have z2 : w.heap.size ≤ w2.heap.size := Nat.le_trans HB.out.size hb2.size
      clear ho2 hr2 hb2 hC
      go_wp2_with (at_builtin; refine wpList_append_lies _ rfl (.tmp 10) (.tmp 19) 27 rfl w.heap.size 30 i0 _ 1 24 Try.underlying27 HI.out.1 HI.out.2.1 HI.out.2.2.1 HI.out.2.2.2 rfl (by decide) (.slice ao k cap) k (rowM M) rfl hO3.out ⟨w2.heap.size, 0, none⟩ 1 1 [.slice (some ⟨g2, 0, none⟩) x c2] rfl rfl (news_one w2 _ 30) (one_slice g2 x c2) (by decide) (by unfold maxLen; omega) (by omega) (by simp; omega) (w2.heap.size + 1) (by simp) ?_; intro g3 c3 w3 hown3 hgrow3 hgn3 _; have HO4 := Lib.hid (And.intro hown3 (And.intro hgrow3 hgn3)); clear hown3 hgrow3 hgn3)
      go_roundw
      case rel =>
        obtain ⟨hown3, hgrow3, hgn3⟩ := HO4.out
        have hba : Below w2.heap.size w2 (w2.alloc (.cells #[.slice (some ⟨g2, 0, none⟩) x c2] 30)) := (Below.refl _ w2).alloc (Nat.le_refl _) _
        have hgl := (World.ownsRow.lt HO2.out g2 rfl)
        have hmg : MgAt w2 ⟨g2, c2, m.l⟩ := msg_of_own HO2.out HXL.out (by have := HMm.out.2.pos; have := HXL.out; omega) (by have := HMm.out.2.few; have := HXL.out; omega)
        have hkeep : ∀ m', MgAt w2 m' → MgAt w3 m' := fun m' hm' => hm'.on ((hgrow3.block m'.g (by simp; have := hm'.lt; omega) (fun e => msg_row HR2.out.row hm' e.symm)).trans (heap_alloc_old w2 _ hm'.lt))
        refine ⟨k + 1, k + 1, c3, _, by go_num, rfl, rfl, hi1, Lib.hid ⟨M ++ [⟨g2, c2, m.l⟩], by simp [HMM.out.1], ⟨?_, fun m' hm' => ?_⟩, ?_⟩, Lib.hid ?_⟩
        · simp only [List.length_append, List.length_cons, List.length_nil, HMM.out.1, rowM_app]
          show w3.ownsRow _ _ _ _ _ (rowM M ++ [.slice (some ⟨g2, 0, none⟩) m.l.length c2])
          rw [HXL.out]
          exact hown3
        · rcases List.mem_append.1 hm' with hm' | hm'
          · exact ⟨hkeep m' (HR2.out.msg m' hm').1, (HR2.out.msg m' hm').2⟩
          · simp at hm'
            subst hm'
            exact ⟨hkeep _ hmg, Nat.le_trans HB.out.size hgl.1⟩
        · rw [List.map_append, HMM.out.2.2, List.take_add_one, List.getElem?_map, HMm.out.1]
          rfl
        · refine (HB.out.trans (HB2.out.mono HB.out.size)).trans ((hba.mono z2).trans ?_)
          exact (Below.refl _ _).grown hgrow3 (by simp; omega) (fun kk hk => (World.ownsRow.lt HR2.out.row kk hk).1)
      case measure => simp [intOf] <;> omega
    · have hiE : n = i := by omega
      subst hiE
      subst hk
      clear hin hi
      go_wp2_with fail
      go_ret
      obtain ⟨M, hML, hMR, hMl⟩ := HM.out
      refine ⟨_, M, rfl, hMR, ?_, HB.out⟩
      rw [hMl, List.take_of_length_le (by simp [HN.out])]
end Go.Proofs.Ythjcllgjojldjaa.Bg
