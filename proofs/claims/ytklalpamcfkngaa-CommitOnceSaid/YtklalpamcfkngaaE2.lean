/- commit: the document's calls, each as one. -/
import Derived.Test.YtklalpamcfkngaaE1
namespace Go.Proofs.Ytklalpamcfkngaa.Cm
open Go Go.RowKit
section
variable {w w' : World} {B q : Nat} {F : Nat → Prop} {S : RL} {TT : TL} {t : TK}
theorem goodC {CL : List RC} (h : GoodS (CL.map prj)) {i : Nat} {c : RC} (hc : CL[i]? = some c) : InvM c.m := h (prj c) (List.mem_map.2 ⟨c, List.mem_of_getElem? hc, rfl⟩)
theorem rstate_any (h : Rf w B F q S TT) (hl : S.length ≤ 1000000) :
    Calls Try.prog 30 #[.pointer (some ⟨q, 0, none⟩), .agg #[.int .u8 t.1, .int .u32 t.2.1, .int .u32 t.2.2]] w fun e w' => e = .returned (.int .i64 (stR (lookR S t))) ∧ Below w.heap.size w w' := by
  obtain ⟨rv, tv, CL, h, rfl⟩ := h
  rw [List.length_map] at hl
  rcases look_case CL t with ⟨h1, h2⟩ | ⟨i, c, hc, ht, h1⟩
  · rw [h1]; exact rstate_none h h2 hl
  · rw [h1]; exact rstate_some h hc ht hl
theorem rowing_any (h : Rf w B F q S TT) (hl : S.length ≤ 1000000) :
    Calls Try.prog 29 #[.pointer (some ⟨q, 0, none⟩), .agg #[.int .u8 t.1, .int .u32 t.2.1, .int .u32 t.2.2]] w fun e w' => OwR w (owL (lookR S t)) e w' := by
  obtain ⟨rv, tv, CL, h, rfl⟩ := h
  rw [List.length_map] at hl
  rcases look_case CL t with ⟨h1, h2⟩ | ⟨i, c, hc, ht, h1⟩
  · rw [h1]
    refine (rowing_none h h2 hl).mono ?_
    rintro e w' ⟨rfl, hb⟩
    exact OwR.nil hb
  · rw [h1]; exact rowing_some h hc ht hl
theorem rst_any (h : Rf w B F q S TT) (hl : TT.length ≤ 1000000) :
    Calls Try.prog 31 #[.pointer (some ⟨q, 0, none⟩), .agg #[.int .u8 t.1, .int .u32 t.2.1, .int .u32 t.2.2]] w fun e w' => e = .returned (.int .i64 (stT (lookT TT t))) ∧ Below w.heap.size w w' := by
  obtain ⟨rv, tv, CL, h, rfl⟩ := h
  exact rstands_any h t hl
theorem rdb_any (h : Rf w B F q S TT) (hl : TT.length ≤ 1000000) :
    Calls Try.prog 33 #[.pointer (some ⟨q, 0, none⟩)] w fun e w' => DkR w (dL TT) e w' := by
  obtain ⟨rv, tv, CL, h, rfl⟩ := h
  exact rdoubt_any h hl
/-- What a call leaves of the document's book. -/
def RDone (w : World) (B : Nat) (F : Nat → Prop) (q : Nat) (S : RL) (RM : TK → Option RunM) (TT : TL) (w' : World) : Prop := ∃ S', RDid w B F q S' TT w' ∧ lookR S' = RM ∧ GoodS S' ∧ S'.length ≤ S.length + 1
theorem RDone.same (h : Rf w B F q S TT) (hg : GoodS S) (hb : Below w.heap.size w w') : RDone w B F q S (lookR S) TT w' := ⟨S, .same h hb, rfl, hg, by omega⟩
theorem RDone.upd {m m' : RunM} (hl : lookR S t = some m) (hg : GoodS S) (hm : InvM m') (h : RDid w B F q (updS S t m') TT w') : RDone w B F q S (updR (lookR S) t m') TT w' := ⟨_, h, lookR_updR hl, hg.upd hm, by rw [upd_len]; omega⟩
theorem inv_tru {m : RunM} (h : InvM m) {j : Nat} (hn : m.n j = true) : (∀ i, i < 4 → tru m.v j i = true → m.n i = true) ∧ (∀ i, i < 4 → tru m.a j i = true → m.n i = true) := by
  refine ⟨fun i hi => ?_, fun i hi => ?_⟩
  · unfold tru
    by_cases e : i = j
    · subst e; intro _; exact hn
    · rw [if_neg e]; exact (h i hi).1
  · unfold tru
    by_cases e : i = j
    · subst e; intro _; exact hn
    · rw [if_neg e]; exact (h i hi).2
theorem rvote_any (h : Rf w B F q S TT) (hg : GoodS S) (hl : S.length ≤ 1000000) (x : Int) (hx : 0 ≤ x) (yes : Bool) :
    Calls Try.prog 20 #[.pointer (some ⟨q, 0, none⟩), .agg #[.int .u8 t.1, .int .u32 t.2.1, .int .u32 t.2.2], .int .u8 x, .bool yes] w fun e w' => e = .returned (two (voteA (lookR S t) x yes).1 (voteA (lookR S t) x yes).2) ∧ RDone w B F q S (voteS (lookR S) t x yes) TT w' := by
  have hr := id h
  obtain ⟨rv, tv, CL, h, rfl⟩ := h
  rw [List.length_map] at hl
  unfold voteS
  rcases look_case CL t with ⟨h1, h2⟩ | ⟨i, c, hc, ht, h1⟩
  · rw [h1]
    exact (rvote_none h h2 hl x yes).mono fun e w' hh => ⟨hh.1, .same hr hg hh.2⟩
  · rw [h1]
    have hm := goodC hg hc
    simp only [voteA]
    rcases place_nodes c.m x hx with ⟨k, j, rfl, hj, hn, hp, hk⟩ | ⟨hno, hp⟩
    · have hin : (j : Int) < 4 ∧ c.m.n (j : Int).toNat = true := ⟨by omega, by simpa using hn⟩
      rw [if_pos hin, if_pos hin]
      simp only [Int.toNat_natCast]
      unfold voteM
      by_cases hs : c.m.s = 1
      · simp only [if_pos hs]
        cases yes
        · exact (rvote_no h hc ht hl _ hp hk hs).mono fun e w' hh => ⟨hh.1, .upd h1 hg hm hh.2⟩
        · refine (rvote_yes h hc ht hl _ hp hk hs (a := eq4 (tru c.m.v j) c.m.n) ?_).mono fun e w' hh => ⟨hh.1, .upd h1 hg (fun i hi => ⟨(inv_tru hm hn).1 i hi, (hm i hi).2⟩) hh.2⟩
          exact all_eq4 _ _ (inv_tru hm hn).1
      · simp only [if_neg hs]
        refine (rvote_late h hc ht hl _ yes hp hk rfl hs).mono fun e w' hh => ?_
        by_cases hy : (yes && c.m.v j) = true
        · simp only [if_pos hy] at hh ⊢
          rw [updR_same h1]
          exact ⟨hh.1, .same hr hg hh.2⟩
        · simp only [if_neg hy] at hh ⊢
          rw [updR_same h1]
          exact ⟨hh.1, .same hr hg hh.2⟩
    · rw [if_neg hno, if_neg hno]
      exact (rvote_arg h hc ht hl x yes hp).mono fun e w' hh => ⟨hh.1, .same hr hg hh.2⟩
theorem rcommit_any (h : Rf w B F q S TT) (hg : GoodS S) (hl : S.length ≤ 1000000) :
    Calls Try.prog 21 #[.pointer (some ⟨q, 0, none⟩), .agg #[.int .u8 t.1, .int .u32 t.2.1, .int .u32 t.2.2]] w fun e w' => e = .returned (.int .i64 (commitE (lookR S t))) ∧ RDone w B F q S (commitS (lookR S) t) TT w' := by
  have hr := id h
  obtain ⟨rv, tv, CL, h, rfl⟩ := h
  rw [List.length_map] at hl
  unfold commitS
  rcases look_case CL t with ⟨h1, h2⟩ | ⟨i, c, hc, ht, h1⟩
  · rw [h1]
    exact (rcommit_none h h2 hl).mono fun e w' hh => ⟨hh.1, .same hr hg hh.2⟩
  · rw [h1]
    have hm := goodC hg hc
    simp only [commitE]
    have ha : allB c.m c.m.v = eq4 c.m.v c.m.n := all_eq4 _ _ fun i hi => (hm i hi).1
    by_cases h4 : c.m.s = 4
    · rw [if_pos (.inl h4), if_pos (.inl h4)]
      exact (rcommit_dead h hc ht hl h4).mono fun e w' hh => ⟨hh.1, .same hr hg hh.2⟩
    · cases he : eq4 c.m.v c.m.n
      · rw [if_pos (.inr rfl), if_pos (.inr rfl)]
        exact (rcommit_no h hc ht hl rfl h4 (ha.trans he)).mono fun e w' hh => ⟨hh.1, .same hr hg hh.2⟩
      · rw [if_neg (by simp [h4]), if_neg (by simp [h4])]
        exact (rcommit_yes h hc ht hl rfl h4 (ha.trans he)).mono fun e w' hh => ⟨hh.1, .upd h1 hg hm hh.2⟩
theorem rappl_any (h : Rf w B F q S TT) (hg : GoodS S) (hl : S.length ≤ 1000000) (x : Int) (hx : 0 ≤ x) :
    Calls Try.prog 23 #[.pointer (some ⟨q, 0, none⟩), .agg #[.int .u8 t.1, .int .u32 t.2.1, .int .u32 t.2.2], .int .u8 x] w fun e w' => e = .returned (bi (applA (lookR S t) x).1 (applA (lookR S t) x).2) ∧ RDone w B F q S (applS (lookR S) t x) TT w' := by
  have hr := id h
  obtain ⟨rv, tv, CL, h, rfl⟩ := h
  rw [List.length_map] at hl
  unfold applS
  rcases look_case CL t with ⟨h1, h2⟩ | ⟨i, c, hc, ht, h1⟩
  · rw [h1]
    exact (rappl_none h h2 hl x).mono fun e w' hh => ⟨hh.1, .same hr hg hh.2⟩
  · rw [h1]
    have hm := goodC hg hc
    simp only [applA]
    rcases place_nodes c.m x hx with ⟨k, j, rfl, hj, hn, hp, hk⟩ | ⟨hno, hp⟩
    · have hin : (j : Int) < 4 ∧ c.m.n (j : Int).toNat = true := ⟨by omega, by simpa using hn⟩
      rw [if_pos hin]
      by_cases hs : c.m.s = 3
      · rw [if_pos hs, if_pos ⟨hin, hs⟩]
        simp only [Int.toNat_natCast]
        refine (rappl_yes h hc ht hl _ hp hk hs (a := eq4 (tru c.m.a j) c.m.n) ?_).mono fun e w' hh => ⟨hh.1, .upd h1 hg (fun i hi => ⟨(hm i hi).1, (inv_tru hm hn).2 i hi⟩) hh.2⟩
        exact all_eq4 _ _ (inv_tru hm hn).2
      · rw [if_neg hs, if_neg (fun e => hs e.2)]
        exact (rappl_no h hc ht hl _ hp hk rfl hs).mono fun e w' hh => ⟨hh.1, .same hr hg hh.2⟩
    · rw [if_neg hno, if_neg (fun e => hno e.1)]
      exact (rappl_arg h hc ht hl x hp).mono fun e w' hh => ⟨hh.1, .same hr hg hh.2⟩
theorem rbegin_any (ao : Option Addr) (l c : Nat) (L : List Int) (h : Rf w B F q S TT) (hg : GoodS S) (hl : S.length ≤ 1000000) (ht : InK t) (hL : L.length = l) (hr : Rd w ao L) (hi : ∀ x ∈ L, 0 ≤ x ∧ x ≤ 255) :
    Calls Try.prog 18 #[.pointer (some ⟨q, 0, none⟩), .agg #[.int .u8 t.1, .int .u32 t.2.1, .int .u32 t.2.2], .slice ao l c] w fun e w' => e = .returned (.int .i64 (beginE (lookR S) t L)) ∧ RDone w B F q S (beginS (lookR S) t L) TT w' := by
  have hrf := id h
  obtain ⟨rv, tv, CL, h, rfl⟩ := h
  rw [List.length_map] at hl
  unfold beginS
  by_cases h0 : l = 0
  · have e1 : listE L = 1 := by unfold listE; rw [if_pos (.inl (by omega))]
    have e2 : beginE (lookR (CL.map prj)) t L = 1 := by unfold beginE; rw [e1, if_pos (by decide)]
    rw [e2, if_neg (by decide)]
    subst h0
    exact (rbegin_few _ t ao c w).mono fun e w' hh => ⟨hh.1, .same hrf hg hh.2⟩
  · by_cases h4 : 4 < l
    · have e1 : listE L = 1 := by unfold listE; rw [if_pos (.inr (.inl (by omega)))]
      have e2 : beginE (lookR (CL.map prj)) t L = 1 := by unfold beginE; rw [e1, if_pos (by decide)]
      rw [e2, if_neg (by decide)]
      exact (rbegin_many _ t ao l c w h4).mono fun e w' hh => ⟨hh.1, .same hrf hg hh.2⟩
    · by_cases hh : ∃ x ∈ L, 3 < x
      · have e1 : listE L = 1 := by unfold listE; rw [if_pos (.inr (.inr hh))]
        have e2 : beginE (lookR (CL.map prj)) t L = 1 := by unfold beginE; rw [e1, if_pos (by decide)]
        rw [e2, if_neg (by decide)]
        exact (rbegin_high _ t ao l c L w hL (by omega) (by omega) hr hi hh).mono fun e w' hh => ⟨hh.1, .same hrf hg hh.2⟩
      · have hh' : ∀ x ∈ L, x ≤ 3 := fun x hx => by
          rcases Int.lt_or_le 3 x with h | h
          · exact absurd ⟨x, hx, h⟩ hh
          · exact h
        have hc : ¬ (L.length = 0 ∨ 4 < L.length ∨ ∃ x ∈ L, 3 < x) := by
          rintro (h | h | h)
          · omega
          · omega
          · exact hh h
        by_cases hn : L.Nodup
        · have e1 : listE L = 0 := by unfold listE; rw [if_neg hc, if_pos hn]
          rcases look_case CL t with ⟨h1, h2⟩ | ⟨i, c', hc', hct, h1⟩
          · have e2 : beginE (lookR (CL.map prj)) t L = 0 := by unfold beginE; rw [e1, h1]; rfl
            rw [e2, if_pos rfl]
            refine (rbegin_new t ao l c L w h hL (by omega) (by omega) hr hi hh' hn ht h2 hl).mono fun e w' hd => ⟨hd.1, _, hd.2, lookR_app h1, ?_, by simp⟩
            intro e he
            rcases List.mem_append.1 he with he | he
            · exact hg e he
            · rw [List.mem_singleton.1 he]
              intro i _
              exact ⟨fun h => (by cases h), fun h => (by cases h)⟩
          · have e2 : beginE (lookR (CL.map prj)) t L = 7 := by unfold beginE; rw [e1, h1]; rfl
            rw [e2, if_neg (by decide)]
            exact (rbegin_again t ao l c L w h hL (by omega) (by omega) hr hi hh' hn hc' hct hl).mono fun e w' hd => ⟨hd.1, .same hrf hg hd.2⟩
        · have e1 : listE L = 3 := by unfold listE; rw [if_neg hc, if_neg hn]
          have e2 : beginE (lookR (CL.map prj)) t L = 3 := by unfold beginE; rw [e1, if_pos (by decide)]
          rw [e2, if_neg (by decide)]
          exact (rbegin_dup _ t ao l c L w hL (by omega) (by omega) hr hi hh' hn).mono fun e w' hd => ⟨hd.1, .same hrf hg hd.2⟩
/-- What a call leaves of those in which it takes part. -/
def TDone (w : World) (B : Nat) (F : Nat → Prop) (q : Nat) (S : RL) (TT : TL) (T : TK → Option Int) (w' : World) : Prop := ∃ TT', RDid w B F q S TT' w' ∧ lookT TT' = T ∧ GoodT TT' ∧ TT'.length ≤ TT.length + 1
theorem TDone.same (h : Rf w B F q S TT) (hg : GoodT TT) (hb : Below w.heap.size w w') : TDone w B F q S TT (lookT TT) w' := ⟨TT, .same h hb, rfl, hg, by omega⟩
theorem rtake_any (h : Rf w B F q S TT) (hg : GoodT TT) (hl : TT.length ≤ 1000000) (ht : InK t) :
    Calls Try.prog 25 #[.pointer (some ⟨q, 0, none⟩), .agg #[.int .u8 t.1, .int .u32 t.2.1, .int .u32 t.2.2]] w fun e w' => e = .returned (.int .i64 (takeE (lookT TT) t)) ∧ TDone w B F q S TT (takeS (lookT TT) t) w' := by
  have hrf := id h
  obtain ⟨rv, tv, CL, h, rfl⟩ := h
  unfold takeE takeS
  rcases hg.state t with ⟨h1, h2⟩ | ⟨s, h1, h2, h3⟩
  · rw [if_pos h2, if_pos h2]
    exact (rtake_new h hl h1 ht).mono fun e w' hd => ⟨hd.1, _, hd.2, lookT_insT h1, hg.ins ht h1, by rw [insT_len]; omega⟩
  · have h0 : ¬ stT (lookT TT t) = 0 := by rw [h2]; omega
    rw [if_neg h0, if_neg h0]
    exact (rtake_again h hl h0).mono fun e w' hd => ⟨hd.1, .same hrf hg hd.2⟩
theorem rsettle_any (h : Rf w B F q S TT) (hg : GoodT TT) (hl : TT.length ≤ 1000000) (s : Int) :
    Calls Try.prog 27 #[.pointer (some ⟨q, 0, none⟩), .agg #[.int .u8 t.1, .int .u32 t.2.1, .int .u32 t.2.2], .int .i64 s] w fun e w' => e = .returned (.int .i64 (settleE (lookT TT) t s)) ∧ TDone w B F q S TT (settleT (lookT TT) t s) w' := by
  have hrf := id h
  obtain ⟨rv, tv, CL, h, rfl⟩ := h
  unfold settleT settleE
  by_cases ha : s ≠ 3 ∧ s ≠ 4
  · rw [if_pos ha, if_neg (by decide)]
    exact (rsettle_arg _ t s w ha.1 ha.2).mono fun e w' hd => ⟨hd.1, .same hrf hg hd.2⟩
  · rw [if_neg ha]
    have hs : s = 3 ∨ s = 4 := by omega
    rcases hg.state t with ⟨h1, h2⟩ | ⟨x, h1, h2, h3⟩
    · rw [if_pos h2, if_neg (by decide)]
      refine (rsettle_no h hl hs h2 (by decide) (by omega)).mono fun e w' hd => ⟨?_, .same hrf hg hd.2⟩
      exact hd.1
    · rw [h2, if_neg (show ¬ x = 0 by omega)]
      by_cases hy : x = 2 ∨ x = s
      · rw [if_pos hy, if_pos rfl]
        refine (rsettle_yes h hl hs h2 hy).mono fun e w' hd => ⟨hd.1, ?_⟩
        obtain ⟨rv', tv', CL', hd1, hd2, hd3⟩ := hd.2
        exact ⟨_, ⟨F, ⟨rv', tv', CL', hd1, hd2⟩, fun _ h => .inl h, hd3⟩, lookT_updT h1, hg.upd t (by omega), by simp [updTT]⟩
      · rw [if_neg hy, if_neg (by decide)]
        refine (rsettle_no h hl hs h2 (by omega) (by omega)).mono fun e w' hd => ⟨?_, .same hrf hg hd.2⟩
        rw [hd.1, if_neg (by omega)]
end
end Go.Proofs.Ytklalpamcfkngaa.Cm
