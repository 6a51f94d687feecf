/- commit: what each call makes of the document's book; both books by one list. -/
import Derived.Test.YtklalpamcfkngaaD1
import Derived.Test.YtklalpamcfkngaaR11
import Derived.Test.YtklalpamcfkngaaR13
namespace Go.Proofs.Ytklalpamcfkngaa.Cm
open Go Go.RowKit
theorem lookR_cons (e : TK × RunM) (S : RL) (t : TK) : lookR (e :: S) t = if e.1 = t then some e.2 else lookR S t := by
  unfold lookR
  rw [List.find?_cons]
  by_cases h : e.1 = t
  · rw [if_pos h, h, eqK_self]; rfl
  · rw [if_neg h, eqK_ne h]
theorem lookR_upd (t : TK) (m' : RunM) : ∀ (S : RL) (k : TK), lookR (updS S t m') k = if k = t then (lookR S t).map (fun _ => m') else lookR S k
  | [], k => by simp [lookR, updS]
  | e :: S, k => by
    have ih := lookR_upd t m' S k
    have hu : updS (e :: S) t m' = (if eqK e.1 t then (e.1, m') else e) :: updS S t m' := rfl
    rw [hu, lookR_cons, ih, lookR_cons, lookR_cons]
    by_cases h1 : e.1 = t
    · rw [h1, eqK_self]
      simp only [if_true]
      by_cases h2 : k = t
      · rw [if_pos h2.symm, if_pos h2]; rfl
      · simp [h2, Ne.symm h2]
    · rw [eqK_ne h1]
      simp only [Bool.false_eq_true, if_false, if_neg h1]
      by_cases h2 : k = t
      · rw [if_pos h2, h2, if_neg h1, if_pos rfl]
      · rw [if_neg h2, if_neg h2]
theorem lookR_updR {S : RL} {t : TK} {m m' : RunM} (h : lookR S t = some m) : lookR (updS S t m') = updR (lookR S) t m' := by
  funext k
  rw [lookR_upd, h]
  rfl
theorem lookR_app {S : RL} {t : TK} {m : RunM} (h : lookR S t = none) : lookR (S ++ [(t, m)]) = updR (lookR S) t m := by
  funext k
  unfold updR
  induction S with
  | nil =>
    rw [List.nil_append, lookR_cons]
    by_cases h2 : k = t
    · rw [if_pos h2, if_pos h2.symm]
    · rw [if_neg h2, if_neg (fun e => h2 e.symm)]
  | cons e S ih =>
    rw [lookR_cons] at h
    have h1 : e.1 ≠ t := fun e2 => by rw [if_pos e2] at h; cases h
    rw [if_neg h1] at h
    rw [List.cons_append, lookR_cons, lookR_cons, ih h]
    by_cases h2 : e.1 = k
    · rw [if_pos h2, if_pos h2, if_neg (fun e2 => h1 (h2.trans e2))]
    · rw [if_neg h2, if_neg h2]
theorem upd_mem {S : RL} {t : TK} {m : RunM} {e : TK × RunM} (h : e ∈ updS S t m) : e ∈ S ∨ e.2 = m := by
  obtain ⟨d, hd, rfl⟩ := List.mem_map.1 h
  by_cases hc : eqK d.1 t = true
  · rw [if_pos hc]; exact .inr rfl
  · rw [if_neg hc]; exact .inl hd
theorem upd_len (S : RL) (t : TK) (m : RunM) : (updS S t m).length = S.length := by simp [updS]
theorem lookR_mem {S : RL} {t : TK} {m : RunM} (h : lookR S t = some m) : ∃ e ∈ S, e.2 = m := by
  unfold lookR at h
  obtain ⟨e, he, rfl⟩ := Option.map_eq_some_iff.1 h
  exact ⟨e, List.mem_of_find?_eq_some he, rfl⟩
def GoodS (S : RL) : Prop := ∀ e ∈ S, InvM e.2
theorem GoodS.upd {S : RL} {t : TK} {m : RunM} (h : GoodS S) (hm : InvM m) : GoodS (updS S t m) := fun e he => by
  rcases upd_mem he with h1 | h1
  · exact h e h1
  · rw [h1]; exact hm
theorem lookT_upd (t : TK) (s : Int) : ∀ (TT : TL) (k : TK), lookT (updTT TT t s) k = if k = t then (lookT TT t).map (fun _ => s) else lookT TT k
  | [], k => by simp [lookT, updTT]
  | e :: TT, k => by
    have ih := lookT_upd t s TT k
    have hu : updTT (e :: TT) t s = (if eqK e.1 t then (e.1, s) else e) :: updTT TT t s := rfl
    rw [hu, lookT_cons, ih, lookT_cons, lookT_cons]
    by_cases h1 : e.1 = t
    · rw [h1, eqK_self]
      simp only [if_true]
      by_cases h2 : k = t
      · rw [if_pos h2.symm, if_pos h2]; rfl
      · simp [h2, Ne.symm h2]
    · rw [eqK_ne h1]
      simp only [Bool.false_eq_true, if_false, if_neg h1]
      by_cases h2 : k = t
      · rw [if_pos h2, h2, if_neg h1, if_pos rfl]
      · rw [if_neg h2, if_neg h2]
theorem lookT_updT {TT : TL} {t : TK} {s s' : Int} (h : lookT TT t = some s) : lookT (updTT TT t s') = updT (lookT TT) t s' := by
  funext k
  rw [lookT_upd, h]
  rfl
theorem lookT_ins (t : TK) : ∀ {TT : TL} (_ : lookT TT t = none) (k : TK), lookT (insT t TT) k = if k = t then some 2 else lookT TT k
  | [], _, k => by
    unfold insT
    rw [lookT_cons]
    by_cases h2 : k = t
    · rw [if_pos h2, if_pos h2.symm]
    · rw [if_neg h2, if_neg (fun e => h2 e.symm)]
  | e :: TT, h, k => by
    rw [lookT_cons] at h
    have h1 : e.1 ≠ t := fun e2 => by rw [if_pos e2] at h; cases h
    rw [if_neg h1] at h
    unfold insT
    split
    · rw [lookT_cons]
      by_cases h2 : k = t
      · rw [if_pos h2, if_pos h2.symm]
      · rw [if_neg h2, if_neg (fun e => h2 e.symm)]
    · rw [lookT_cons, lookT_cons, lookT_ins t h k]
      by_cases h2 : e.1 = k
      · rw [if_pos h2, if_pos h2, if_neg (fun e2 => h1 (h2.trans e2))]
      · rw [if_neg h2, if_neg h2]
theorem lookT_insT {TT : TL} {t : TK} (h : lookT TT t = none) : lookT (insT t TT) = updT (lookT TT) t 2 := by
  funext k
  rw [lookT_ins t h]
  rfl
/-- Those in which it takes part: in order, each held, committed or aborted. -/
structure GoodT (TT : TL) : Prop where
  ord : (TT.map (·.1)).Pairwise ltP
  ink : ∀ e ∈ TT, InK e.1
  st : ∀ e ∈ TT, e.2 = 2 ∨ e.2 = 3 ∨ e.2 = 4
theorem GoodT.takes {TT : TL} (h : GoodT TT) : Takes (lookT TT) TT := ⟨fun _ _ => rfl, h.ord, h.ink⟩
theorem GoodT.state {TT : TL} (h : GoodT TT) (t : TK) : (lookT TT t = none ∧ stT (lookT TT t) = 0) ∨ ∃ s, lookT TT t = some s ∧ stT (lookT TT t) = s ∧ (s = 2 ∨ s = 3 ∨ s = 4) := by
  cases hl : lookT TT t with
  | none => exact .inl ⟨rfl, rfl⟩
  | some s => exact .inr ⟨s, rfl, rfl, h.st _ (look_memT hl)⟩
theorem GoodT.upd {TT : TL} (h : GoodT TT) (t : TK) {s : Int} (hs : s = 2 ∨ s = 3 ∨ s = 4) : GoodT (updTT TT t s) := by
  have hk : (updTT TT t s).map (·.1) = TT.map (·.1) := by
    unfold updTT
    rw [List.map_map]
    exact List.map_congr_left fun e _ => by simp only [Function.comp]; split <;> rfl
  refine ⟨by rw [hk]; exact h.ord, fun e he => ?_, fun e he => ?_⟩
  · obtain ⟨d, hd, rfl⟩ := List.mem_map.1 he
    have := h.ink d hd
    split <;> exact this
  · obtain ⟨d, hd, rfl⟩ := List.mem_map.1 he
    have := h.st d hd
    split
    · exact hs
    · exact this
theorem ins_mem {t : TK} {TT : TL} {e : TK × Int} : e ∈ insT t TT ↔ e = (t, 2) ∨ e ∈ TT := by
  rw [(insT_perm t TT).mem_iff, List.mem_cons]
theorem GoodT.ins {TT : TL} (h : GoodT TT) {t : TK} (ht : InK t) (hn : lookT TT t = none) : GoodT (insT t TT) := by
  refine ⟨?_, fun e he => ?_, fun e he => ?_⟩
  · have ho := h.ord
    clear h
    induction TT with
    | nil => simp [insT]
    | cons e TT ih =>
      rw [lookT_cons] at hn
      have h1 : e.1 ≠ t := fun e2 => by rw [if_pos e2] at hn; cases hn
      rw [if_neg h1] at hn
      rw [List.map_cons, List.pairwise_cons] at ho
      unfold insT
      split
      · rename_i hlt
        have hlt : ltP t e.1 := by simpa [ltK] using hlt
        rw [List.map_cons, List.map_cons, List.pairwise_cons, List.pairwise_cons]
        refine ⟨fun x hx => ?_, ho.1, ho.2⟩
        rcases List.mem_cons.1 hx with rfl | hx
        · exact hlt
        · exact ltP_trans hlt (ho.1 x hx)
      · rename_i hlt
        have hlt : ¬ ltP t e.1 := by simpa [ltK] using hlt
        have hgt : ltP e.1 t := by
          rcases ltP_total t e.1 with h | h | h
          · exact absurd h hlt
          · exact absurd h.symm h1
          · exact h
        rw [List.map_cons, List.pairwise_cons]
        refine ⟨fun x hx => ?_, ih hn ho.2⟩
        obtain ⟨d, hd, rfl⟩ := List.mem_map.1 hx
        rcases ins_mem.1 hd with rfl | hd
        · exact hgt
        · exact ho.1 _ (List.mem_map.2 ⟨d, hd, rfl⟩)
  · rcases ins_mem.1 he with rfl | he
    · exact ht
    · exact h.ink e he
  · rcases ins_mem.1 he with rfl | he
    · exact .inl rfl
    · exact h.st e he
end Go.Proofs.Ytklalpamcfkngaa.Cm
