/- commit: the document's book, when one of its runs turns. -/
import Derived.Test.YtklalpamcfkngaaR3
namespace Go.Proofs.Ytklalpamcfkngaa.Cm
open Go Go.RowKit
theorem map_set_same {α β : Type} (f : α → β) : ∀ {L : List α} {i : Nat} {c c' : α}, L[i]? = some c → f c' = f c → (L.set i c').map f = L.map f
  | [], _, _, _, h, _ => by simp at h
  | x :: L, 0, c, c', h, e => by simp at h; subst h; simp [e]
  | x :: L, i + 1, c, c', h, e => by simp only [List.set_cons_succ, List.map_cons]; rw [map_set_same f (by simpa using h) e]
theorem mem_set {α : Type} {L : List α} {i : Nat} {c' d : α} (h : d ∈ L.set i c') : d = c' ∨ ∃ j, j ≠ i ∧ L[j]? = some d := by
  obtain ⟨j, hj⟩ := List.getElem?_of_mem h
  by_cases e : i = j
  · subst e
    rw [List.getElem?_set, if_pos rfl] at hj
    split at hj
    · exact .inl (Option.some.inj hj).symm
    · cases hj
  · rw [List.getElem?_set, if_neg e] at hj
    exact .inr ⟨j, fun e2 => e e2.symm, hj⟩
theorem apart_of {CL : List RC} (h : (CL.flatMap fun c => [c.gy, c.gd]).Nodup) {i j : Nat} {c d : RC} (hi : CL[i]? = some c) (hj : CL[j]? = some d) (hne : i ≠ j) : d.gy ≠ c.gy ∧ d.gy ≠ c.gd ∧ d.gd ≠ c.gy ∧ d.gd ≠ c.gd := by
  rw [List.flatMap_def] at h
  unfold List.Nodup at h
  rw [List.pairwise_flatten] at h
  have h2 := h.2
  rw [List.pairwise_map, List.pairwise_iff_getElem] at h2
  have li := (List.getElem?_eq_some_iff.1 hi)
  have lj := (List.getElem?_eq_some_iff.1 hj)
  obtain ⟨hil, hic⟩ := li
  obtain ⟨hjl, hjd⟩ := lj
  rcases Nat.lt_or_gt_of_ne hne with hlt | hlt
  · have := h2 i j hil hjl hlt
    rw [hic, hjd] at this
    simp at this
    omega
  · have := h2 j i hjl hil hlt
    rw [hic, hjd] at this
    simp at this
    omega
theorem self_of {CL : List RC} (h : (CL.flatMap fun c => [c.gy, c.gd]).Nodup) {c : RC} (hc : c ∈ CL) : c.gy ≠ c.gd := by
  rw [List.flatMap_def] at h
  unfold List.Nodup at h
  rw [List.pairwise_flatten] at h
  have := h.1 _ (List.mem_map.2 ⟨c, hc, rfl⟩)
  simpa using this
section
variable {w w' : World} {B q : Nat} {F : Nat → Prop} {rv tv : Value} {CL : List RC} {TT : TL}
theorem refat_put (h : RefAt w B F q rv tv CL TT) {i : Nat} {c : RC} (hc : CL[i]? = some c) (m' : RunM) (hn : m'.n = c.m.n)
    (hr : w'.ownsRow B 85 7 rv CL.length ((CL.set i { c with m := m' }).flatMap cells7)) (hy : w'.heap[c.gy]? = some (.cells (boolsL m' m'.v).toArray 4 (0, 0))) (hd : w'.heap[c.gd]? = some (.cells (boolsL m' m'.a).toArray 4 (0, 0)))
    (ht : Turned (fun k => rv.ownBlock = some k ∨ k = c.gy ∨ k = c.gd) w w') : RefAt w' B F q rv tv (CL.set i { c with m := m' }) TT ∧ Turned F w w' := by
  have hcm := List.mem_of_getElem? hc
  have row4 : ∀ g, rv.ownBlock = some g → ∀ cs, w.heap[g]? = some (.cells cs 4 (0, 0)) → False := fun g hg cs e => by
    obtain ⟨_, cur, h1⟩ := own_obj h.rrow hg
    rw [e] at h1; cases h1
  have ks : ∀ k cs T, w.heap[k]? = some (.cells cs T (0, 0)) → T ≠ 85 → k ≠ c.gy → k ≠ c.gd → w'.heap[k]? = w.heap[k]? := fun k cs T hk hT h1 h2 => by
    refine ht.block k (Array.getElem?_eq_some_iff.1 hk).1 (fun e => ?_)
    rcases e with e | e | e
    · obtain ⟨_, cur, h3⟩ := own_obj h.rrow e
      rw [hk] at h3; cases h3; exact hT rfl
    · exact h1 e
    · exact h2 e
  have not4 : ∀ k cs T, w.heap[k]? = some (.cells cs T (0, 0)) → T ≠ 4 → k ≠ c.gy ∧ k ≠ c.gd := fun k cs T hk hT =>
    ⟨fun e => by rw [e, (h.yes c hcm).1] at hk; cases hk; exact hT rfl, fun e => by rw [e, (h.did c hcm).1] at hk; cases hk; exact hT rfl⟩
  have nle : nodesL m' = nodesL c.m := by unfold nodesL; rw [hn]
  have keep : ∀ d, (∃ j, j ≠ i ∧ CL[j]? = some d) → (w'.heap[d.gy]? = w.heap[d.gy]?) ∧ w'.heap[d.gd]? = w.heap[d.gd]? := fun d ⟨j, hj, hd2⟩ => by
    have ha := apart_of h.dist hc hd2 (fun e => hj e.symm)
    have hdm := List.mem_of_getElem? hd2
    exact ⟨ks _ _ _ (h.yes d hdm).1 (by decide) ha.1 ha.2.1, ks _ _ _ (h.did d hdm).1 (by decide) ha.2.2.1 ha.2.2.2⟩
  have nk : ∀ d ∈ CL, w'.ownsRow B 5 1 (.slice (some ⟨d.gn, 0, none⟩) (nl d.m) d.cn) (nl d.m) (u8s (nodesI d.m)) := fun d hd2 => by
    refine own_on (h.nodes d hd2).1 (fun g hg => ?_)
    obtain ⟨_, cur, h3⟩ := own_obj (h.nodes d hd2).1 hg
    exact ks g _ _ h3 (by decide) (not4 g _ _ h3 (by decide)).1 (not4 g _ _ h3 (by decide)).2
  refine ⟨⟨(ks q _ _ h.cell (by decide) (not4 q _ _ h.cell (by decide)).1 (not4 q _ _ h.cell (by decide)).2).trans h.cell, by rw [List.length_set]; exact hr, own_on h.trow (fun g hg => ?_), fun d hd2 => ?_, fun d hd2 => ?_, fun d hd2 => ?_, ?_, fun d hd2 => ?_, ?_, h.tkeys, ⟨fun d hd2 => ?_, h.wf.2⟩, Nat.le_trans h.base ht.size, h.fq, h.fr, h.ft, fun k hk => Nat.lt_of_lt_of_le (h.hi k hk) ht.size, h.low⟩, ht.mono (fun k hk => ?_)⟩
  · obtain ⟨_, cur, h3⟩ := own_obj h.trow hg
    exact ks g _ _ h3 (by decide) (not4 g _ _ h3 (by decide)).1 (not4 g _ _ h3 (by decide)).2
  · rcases mem_set hd2 with rfl | ⟨j, hj, hd3⟩
    · have := nk c hcm
      simp only [nl, nodesI, nle] at this ⊢
      exact ⟨this, (h.nodes c hcm).2⟩
    · exact ⟨nk d (List.mem_of_getElem? hd3), (h.nodes d (List.mem_of_getElem? hd3)).2⟩
  · rcases mem_set hd2 with rfl | hd3
    · exact ⟨hy, (h.yes c hcm).2⟩
    · obtain ⟨j, hj, hd4⟩ := id hd3
      exact ⟨(keep d hd3).1.trans (h.yes d (List.mem_of_getElem? hd4)).1, (h.yes d (List.mem_of_getElem? hd4)).2⟩
  · rcases mem_set hd2 with rfl | hd3
    · exact ⟨hd, (h.did c hcm).2⟩
    · obtain ⟨j, hj, hd4⟩ := id hd3
      exact ⟨(keep d hd3).2.trans (h.did d (List.mem_of_getElem? hd4)).1, (h.did d (List.mem_of_getElem? hd4)).2⟩
  · have := h.dist
    rw [List.flatMap_def] at this ⊢
    rwa [map_set_same (fun c : RC => [c.gy, c.gd]) (c' := { c with m := m' }) hc rfl]
  · rcases mem_set hd2 with rfl | ⟨j, hj, hd3⟩
    · have := h.pos c hcm
      simp only [nl, nle] at this ⊢
      exact this
    · exact h.pos d (List.mem_of_getElem? hd3)
  · rw [map_set_same (fun c : RC => c.t) (c' := { c with m := m' }) hc rfl]; exact h.keys
  · rcases mem_set hd2 with rfl | ⟨j, hj, hd3⟩
    · exact h.wf.1 c hcm
    · exact h.wf.1 d (List.mem_of_getElem? hd3)
  · rcases hk with hk | rfl | rfl
    · exact h.fr k hk
    · exact (h.yes c hcm).2
    · exact (h.did c hcm).2
/-- How a run stands is written over. -/
theorem refat_state (h : RefAt w B F q rv tv CL TT) {i g cap : Nat} {c : RC} (hc : CL[i]? = some c) (hrv : rv = .slice (some ⟨g, 0, none⟩) CL.length cap) (s : Int) :
    RefAt (w.setCell ⟨g, i * 7 + 6, none⟩ (.int .i64 s)) B F q rv tv (CL.set i { c with m := { c.m with s := s } }) TT ∧ Turned F w (w.setCell ⟨g, i * 7 + 6, none⟩ (.int .i64 s)) := by
  have hcm := List.mem_of_getElem? hc
  have ht := turned_set w g (i * 7 + 6) (.int .i64 s)
  have hgr : rv.ownBlock = some g := by rw [hrv]; simp [Value.ownBlock]
  have n4 : ∀ (k : Nat) (cs : Array Value), w.heap[k]? = some (.cells cs 4 (0, 0)) → (w.setCell ⟨g, i * 7 + 6, none⟩ (.int .i64 s)).heap[k]? = w.heap[k]? := fun k cs hk => ht.block k (Array.getElem?_eq_some_iff.1 hk).1 (fun e => by
    obtain ⟨_, cur, h3⟩ := own_obj h.rrow hgr
    rw [← e, hk] at h3; cases h3)
  refine refat_put h hc { c.m with s := s } rfl ?_ ((n4 _ _ (h.yes c hcm).1).trans (h.yes c hcm).1) ((n4 _ _ (h.did c hcm).1).trans (h.did c hcm).1) (ht.mono (fun k hk => .inl (by rw [hk]; exact hgr)))
  have := h.rrow
  rw [hrv] at this ⊢
  rw [← fm_set len7 hc (j := 6) (by decide) (v := .int .i64 s) rfl]
  exact (this.stored (i * 7 + 6) (.int .i64 s)).1
theorem bools_tru (m : RunM) (f : Nat → Bool) {k j : Nat} (hk : (nodesL m)[k]? = some j) : (boolsL m f).set k (.bool true) = boolsL m (tru f j) := by
  have hnd : (nodesL m).Nodup := (List.nodup_range).filter _
  unfold boolsL
  apply List.ext_getElem?
  intro p
  rw [List.getElem?_set, List.getElem?_map, List.getElem?_map, List.length_map]
  have hkl := (List.getElem?_eq_some_iff.1 hk).1
  by_cases e : k = p
  · subst e
    rw [if_pos rfl, if_pos hkl, hk]
    simp [tru]
  · rw [if_neg e]
    cases hp : (nodesL m)[p]? with
    | none => rfl
    | some x =>
      have : x ≠ j := fun e2 => by
        subst e2
        exact e ((List.getElem?_inj hkl hnd).1 (hk.trans hp.symm))
      simp [tru, this]
theorem refat_yes (h : RefAt w B F q rv tv CL TT) {i k j : Nat} {c : RC} (hc : CL[i]? = some c) (hk : (nodesL c.m)[k]? = some j) :
    RefAt (w.setCell ⟨c.gy, k, none⟩ (.bool true)) B F q rv tv (CL.set i { c with m := { c.m with v := tru c.m.v j } }) TT ∧ Turned F w (w.setCell ⟨c.gy, k, none⟩ (.bool true)) := by
  have hcm := List.mem_of_getElem? hc
  have ht := turned_set w c.gy k (.bool true)
  refine refat_put h hc { c.m with v := tru c.m.v j } rfl ?_ ?_ ((ht.block _ (h.hi _ (h.did c hcm).2) (fun e => self_of h.dist hcm e.symm)).trans (h.did c hcm).1) (ht.mono (fun k hk => .inr (.inl hk)))
  · have e : (CL.set i { c with m := { c.m with v := tru c.m.v j } }).flatMap cells7 = CL.flatMap cells7 := by
      rw [List.flatMap_def, List.flatMap_def]
      exact congrArg List.flatten (map_set_same cells7 hc rfl)
    rw [e]
    refine own_on h.rrow (fun g hg => ht.block g (h.hi g (h.fr g hg)) (fun e2 => ?_))
    obtain ⟨_, cur, h3⟩ := own_obj h.rrow hg
    rw [e2, (h.yes c hcm).1] at h3; cases h3
  · rw [set_block (h.yes c hcm).1]
    have := bools_tru c.m c.m.v hk
    rw [show boolsL { c.m with v := tru c.m.v j } (tru c.m.v j) = boolsL c.m (tru c.m.v j) from rfl, ← this]
    simp
theorem refat_did (h : RefAt w B F q rv tv CL TT) {i k j : Nat} {c : RC} (hc : CL[i]? = some c) (hk : (nodesL c.m)[k]? = some j) :
    RefAt (w.setCell ⟨c.gd, k, none⟩ (.bool true)) B F q rv tv (CL.set i { c with m := { c.m with a := tru c.m.a j } }) TT ∧ Turned F w (w.setCell ⟨c.gd, k, none⟩ (.bool true)) := by
  have hcm := List.mem_of_getElem? hc
  have ht := turned_set w c.gd k (.bool true)
  refine refat_put h hc { c.m with a := tru c.m.a j } rfl ?_ ((ht.block _ (h.hi _ (h.yes c hcm).2) (fun e => self_of h.dist hcm e)).trans (h.yes c hcm).1) ?_ (ht.mono (fun k hk => .inr (.inr hk)))
  · have e : (CL.set i { c with m := { c.m with a := tru c.m.a j } }).flatMap cells7 = CL.flatMap cells7 := by
      rw [List.flatMap_def, List.flatMap_def]
      exact congrArg List.flatten (map_set_same cells7 hc rfl)
    rw [e]
    refine own_on h.rrow (fun g hg => ht.block g (h.hi g (h.fr g hg)) (fun e2 => ?_))
    obtain ⟨_, cur, h3⟩ := own_obj h.rrow hg
    rw [e2, (h.did c hcm).1] at h3; cases h3
  · rw [set_block (h.did c hcm).1]
    have := bools_tru c.m c.m.a hk
    rw [show boolsL { c.m with a := tru c.m.a j } (tru c.m.a j) = boolsL c.m (tru c.m.a j) from rfl, ← this]
    simp
end
end Go.Proofs.Ytklalpamcfkngaa.Cm
