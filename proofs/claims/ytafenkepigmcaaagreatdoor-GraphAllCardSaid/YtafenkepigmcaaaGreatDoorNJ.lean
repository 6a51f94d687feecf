/- graph: what holds of every graph that came about by requests: both ends know. -/
import Derived.Test.YtafenkepigmcaaaGreatDoorNH
namespace Go.Proofs.YtafenkepigmcaaaGreatDoor.Gr
open Go Go.RowKit YtafenkepigmcaaaGreatDoor.So
theorem in8_b {i : Int} (h : In8 i) : 0 ≤ i ∧ i ≤ 255 := by
  unfold In8 InQ at h
  simpa [Lit.wf, IntKind.min, IntKind.max, IntKind.signed, IntKind.bits] using h
structure OkG (G : GV) : Prop where
  rise : RiseE G
  key : ∀ v x, getE G v = some x → 1 ≤ v ∧ v ≤ 40
  rp : ∀ v x, getE G v = some x → RiseE x.1
  prop : ∀ v x, getE G v = some x → ∀ p ∈ x.1, 0 ≤ p.1 ∧ p.1 ≤ 3
  rh : ∀ v, RiseE (hG G v)
  few : ∀ v, (hG G v).length ≤ 16
  sym : ∀ a b, getE (hG G a) b = getE (hG G b) a
  self : ∀ a, getE (hG G a) a = none
theorem okG_nil : OkG [] := ⟨List.Pairwise.nil, (fun v x h => by cases h), (fun v x h => by cases h), (fun v x h => by cases h), fun v => List.Pairwise.nil, fun v => Nat.zero_le _, fun a b => rfl, fun a => rfl⟩
theorem hG_there {G : GV} {v b : Int} (h : (getE (hG G v) b).isSome = true) : (getE G v).isSome = true := by
  cases hv : getE G v with
  | none => rw [hG_none hv] at h; cases h
  | some x => rfl
theorem OkG.closed {G : GV} (h : OkG G) : Closed G := fun y x hx => by
  have h1 := (mem_keysE (h.rh y) x).1 hx
  rw [h.sym y x] at h1
  exact hG_there h1
theorem OkG.props {G : GV} (h : OkG G) {v : Int} {x : EL Av × EL Av} (hx : getE G v = some x) : x.1.length ≤ 4 := by
  have h1 : (keysE x.1).length ≤ [(0 : Int), 1, 2, 3].length := rise_sub (keysE_rise (h.rp v x hx)) (by decide) (fun k hk => by
    obtain ⟨p, hp, rfl⟩ := List.mem_map.1 hk
    have := h.prop v x hx p hp
    simp only [List.mem_cons, List.not_mem_nil, or_false]
    omega)
  rwa [keysE_len] at h1
theorem OkG.sizes {G : GV} (h : OkG G) : ∀ e ∈ G, e.2.1.length ≤ 12 ∧ e.2.2.length ≤ 40 := fun e he => by
  have hx := get_of_mem h.rise he
  have h1 := h.props hx
  have h2 := h.few e.1
  rw [hG_some hx] at h2
  omega
theorem hG_put {G : GV} (h : RiseE G) (v j : Int) (x : EL Av × EL Av) : hG (putE G v x) j = if j = v then x.2 else hG G j := by
  unfold hG
  rw [getE_put G v x h]
  by_cases e : j = v
  · rw [if_pos e, if_pos e]; rfl
  · rw [if_neg e, if_neg e]
theorem hG_del {G : GV} (v j : Int) : hG (delE G v) j = if j = v then [] else hG G j := by
  unfold hG
  rw [getE_del]
  by_cases e : j = v
  · rw [if_pos e, if_pos e]; rfl
  · rw [if_neg e, if_neg e]
theorem hG_in {G : GV} (h : RiseE G) {v : Int} (o : Int) (a : Av) (hv : (getE G v).isSome = true) (j : Int) : hG (halfIn G v o a) j = if j = v then putE (hG G v) o a else hG G j := by
  obtain ⟨x, hx⟩ := Option.isSome_iff_exists.1 hv
  unfold halfIn
  rw [hx]
  simp only
  rw [hG_put h, hG_some hx]
theorem hG_out {G : GV} (h : RiseE G) {v : Int} (o : Int) (hv : (getE G v).isSome = true) (j : Int) : hG (halfOut G v o) j = if j = v then delE (hG G v) o else hG G j := by
  obtain ⟨x, hx⟩ := Option.isSome_iff_exists.1 hv
  unfold halfOut
  rw [hx]
  simp only
  rw [hG_put h, hG_some hx]
theorem pG_in {G : GV} (h : RiseE G) (v o : Int) (a : Av) (j : Int) : (getE (halfIn G v o a) j).map Prod.fst = (getE G j).map Prod.fst := by
  rw [getE_halfIn h]
  by_cases e : j = v
  · rw [if_pos e, e]; cases getE G v <;> rfl
  · rw [if_neg e]
theorem pG_out {G : GV} (h : RiseE G) (v o j : Int) : (getE (halfOut G v o) j).map Prod.fst = (getE G j).map Prod.fst := by
  rw [getE_halfOut h]
  by_cases e : j = v
  · rw [if_pos e, e]; cases getE G v <;> rfl
  · rw [if_neg e]
/-- A graph whose vertices' properties and keys are those of another one, its halves both-ended. -/
theorem OkG.halves {G G' : GV} (h : OkG G) (hr : RiseE G') (hp : ∀ j, (getE G' j).map Prod.fst = (getE G j).map Prod.fst) (rh : ∀ v, RiseE (hG G' v)) (few : ∀ v, (hG G' v).length ≤ 16) (sym : ∀ a b, getE (hG G' a) b = getE (hG G' b) a) (self : ∀ a, getE (hG G' a) a = none) : OkG G' := by
  have hx : ∀ v x, getE G' v = some x → ∃ y, getE G v = some y ∧ y.1 = x.1 := fun v x hv => by
    have := hp v
    rw [hv] at this
    cases hq : getE G v with
    | none => rw [hq] at this; cases this
    | some y => rw [hq] at this; exact ⟨y, rfl, (Option.some.inj this).symm⟩
  refine ⟨hr, fun v x hv => ?_, fun v x hv => ?_, fun v x hv => ?_, rh, few, sym, self⟩
  · obtain ⟨y, h1, _⟩ := hx v x hv; exact h.key v y h1
  · obtain ⟨y, h1, h2⟩ := hx v x hv; rw [← h2]; exact h.rp v y h1
  · obtain ⟨y, h1, h2⟩ := hx v x hv; rw [← h2]; exact h.prop v y h1
theorem num_b {v : Int} (h : numB v = true) : 1 ≤ v ∧ v ≤ 40 := of_decide_eq_true h
theorem setP_rise {P : EL Av} (h : RiseE P) (k : Int) (a : Av) : RiseE (setP P k a) := by
  unfold setP; split
  · exact delE_rise h k
  · exact putE_rise h k a
theorem OkG.change {G : GV} (h : OkG G) {o : Ox} (ho : okO o = true) (hw : o.wf) (hr : refG G o = 0) : OkG (chgG G o) := by
  obtain ⟨_, hA, hf, hk, _⟩ := okO_parts ho
  have hnA := num_b hA
  have ht := ref_there hr
  have hrise := chgG_rise h.rise o
  unfold chgG at hrise ⊢
  by_cases h1 : o.kd = 1
  · rw [if_pos h1] at hrise ⊢
    have hno : getE G o.A = none := by
      unfold refG at hr
      rw [if_pos h1] at hr
      cases hq : getE G o.A with
      | none => rfl
      | some x => rw [hq] at hr; simp at hr
    have hh : ∀ j, hG (putE (delE G o.A) o.A ([], [])) j = hG G j := fun j => by
      rw [hG_put (delE_rise h.rise _)]
      by_cases e : j = o.A
      · rw [if_pos e, e, hG_none hno]
      · rw [if_neg e, hG_del, if_neg e]
    refine ⟨hrise, fun v x hv => ?_, fun v x hv => ?_, fun v x hv => ?_, fun v => by rw [hh]; exact h.rh v, fun v => by rw [hh]; exact h.few v, fun a b => by rw [hh, hh]; exact h.sym a b, fun a => by rw [hh]; exact h.self a⟩
    all_goals
      rw [getE_put _ _ _ (delE_rise h.rise _)] at hv
      by_cases e : v = o.A
      · rw [if_pos e] at hv
        have := Option.some.inj hv
        subst this
        first | (rw [e]; exact hnA) | exact List.Pairwise.nil | (intro p hp; cases hp)
      · rw [if_neg e, getE_del_ne e] at hv
        first | exact h.key v x hv | exact h.rp v x hv | exact h.prop v x hv
  rw [if_neg h1] at hrise ⊢
  obtain ⟨x, hx⟩ := ht h1
  by_cases h2 : o.kd = 2
  · rw [if_pos h2] at hrise ⊢
    have hx2 : x.2 = [] := by
      unfold refG at hr
      rw [if_neg h1, if_neg (by omega), hx] at hr
      simp only [h2, if_true] at hr
      split at hr
      · rename_i q; exact List.eq_nil_of_length_eq_zero q
      · cases hr
    have hh : ∀ j, hG (delE G o.A) j = hG G j := fun j => by
      rw [hG_del]
      by_cases e : j = o.A
      · rw [if_pos e, e, hG_some hx, hx2]
      · rw [if_neg e]
    refine ⟨hrise, fun v x hv => ?_, fun v x hv => ?_, fun v x hv => ?_, fun v => by rw [hh]; exact h.rh v, fun v => by rw [hh]; exact h.few v, fun a b => by rw [hh, hh]; exact h.sym a b, fun a => by rw [hh]; exact h.self a⟩
    all_goals
      rw [getE_del] at hv
      by_cases e : v = o.A
      · rw [if_pos e] at hv; cases hv
      · rw [if_neg e] at hv
        first | exact h.key v x hv | exact h.rp v x hv | exact h.prop v x hv
  rw [if_neg h2] at hrise ⊢
  rw [hx] at hrise ⊢
  simp only at hrise ⊢
  by_cases h3 : o.kd = 3
  · rw [if_pos h3] at hrise ⊢
    have hh : ∀ j, hG (putE G o.A (setP x.1 o.key o.a, x.2)) j = hG G j := fun j => by
      rw [hG_put h.rise]
      by_cases e : j = o.A
      · rw [if_pos e, e, hG_some hx]
      · rw [if_neg e]
    have hk3 : 0 ≤ o.key ∧ o.key ≤ 3 := by
      have h0 := (in8_b hw.hk).1
      unfold keyB at hk
      rw [Bool.or_eq_true] at hk
      rcases hk with hk | hk
      · have : o.key = 0 := by simpa using hk
        omega
      · rw [Bool.and_eq_true] at hk
        exact ⟨h0, of_decide_eq_true hk.2⟩
    refine ⟨hrise, fun v y hv => ?_, fun v y hv => ?_, fun v y hv => ?_, fun v => by rw [hh]; exact h.rh v, fun v => by rw [hh]; exact h.few v, fun a b => by rw [hh, hh]; exact h.sym a b, fun a => by rw [hh]; exact h.self a⟩
    all_goals
      rw [getE_put _ _ _ h.rise] at hv
      by_cases e : v = o.A
      · rw [if_pos e] at hv
        have := Option.some.inj hv
        subst this
        first
          | (rw [e]; exact hnA)
          | exact setP_rise (h.rp _ x hx) _ _
          | (intro p hp
             unfold setP at hp
             simp only at hp
             split at hp
             · exact h.prop _ x hx p (delE_mem.1 hp).1
             · rcases putE_key hp with rfl | hp
               · exact hk3
               · exact h.prop _ x hx p hp)
      · rw [if_neg e] at hv
        first | exact h.key v y hv | exact h.rp v y hv | exact h.prop v y hv
  rw [if_neg h3] at hrise ⊢
  by_cases h5 : o.kd = 5
  · rw [if_pos h5] at hrise ⊢
    have hj : joinR G o.A o.B = 0 := by
      unfold refG at hr
      rw [if_neg h1, if_neg (by omega), hx] at hr
      simp only [if_neg h2, if_neg (show ¬ o.kd = 9 by omega), if_pos h5] at hr
      exact hr
    have hAs : (getE G o.A).isSome = true := by rw [hx]; rfl
    have hBs : (getE G o.B).isSome = true := by
      unfold joinR at hj
      cases hq : (getE G o.B).isSome with
      | true => rfl
      | false => rw [hq] at hj; simp at hj
    have hjo : joinedG G o.A o.B = false := by
      unfold joinR at hj
      rw [hBs] at hj
      cases hq : joinedG G o.A o.B with
      | false => rfl
      | true => rw [hq] at hj; simp at hj
    have hful : fullG G o.A = false ∧ fullG G o.B = false := by
      unfold joinR at hj
      rw [hBs, hjo] at hj
      cases hq : fullG G o.A <;> cases hq2 : fullG G o.B <;> rw [hq, hq2] at hj <;> simp at hj ⊢
    have hAB : o.A ≠ o.B := fun e => by
      rw [h5] at hf
      simp [farB, pB] at hf
      exact hf.2 e.symm
    have hno : getE (hG G o.A) o.B = none := by
      unfold joinedG at hjo
      cases hq : getE (hG G o.A) o.B with
      | none => rfl
      | some a => rw [hq] at hjo; cases hjo
    have r1 := halfIn_rise h.rise o.A o.B o.a
    have hB1 : (getE (halfIn G o.A o.B o.a) o.B).isSome = true := by rw [getE_halfIn h.rise, if_neg (fun e => hAB e.symm)]; exact hBs
    have hh : ∀ j, hG (halfIn (halfIn G o.A o.B o.a) o.B o.A o.a) j = if j = o.B then putE (hG G o.B) o.A o.a else if j = o.A then putE (hG G o.A) o.B o.a else hG G j := fun j => by
      have eB : hG (halfIn G o.A o.B o.a) o.B = hG G o.B := by rw [hG_in h.rise o.B o.a hAs o.B, if_neg (fun e => hAB e.symm)]
      rw [hG_in r1 o.A o.a hB1 j, eB, hG_in h.rise o.B o.a hAs j]
    have hl : ∀ v w, fullG G v = false → (putE (hG G v) w o.a).length ≤ 16 := fun v w hv => by
      unfold fullG at hv
      have := of_decide_eq_false hv
      rw [putE_len _ _ _ (h.rh v)]
      split <;> omega
    have hget : ∀ a b, getE (hG (halfIn (halfIn G o.A o.B o.a) o.B o.A o.a) a) b = if (a = o.A ∧ b = o.B) ∨ (a = o.B ∧ b = o.A) then some o.a else getE (hG G a) b := fun a b => by
      rw [hh]
      by_cases ea : a = o.B
      · subst ea
        rw [if_pos rfl, getE_put _ _ _ (h.rh _)]
        by_cases eb : b = o.A
        · rw [if_pos eb, if_pos (.inr ⟨rfl, eb⟩)]
        · rw [if_neg eb, if_neg (by rintro (⟨q, _⟩ | ⟨_, q⟩); exact hAB q.symm; exact eb q)]
      · rw [if_neg ea]
        by_cases ea2 : a = o.A
        · subst ea2
          rw [if_pos rfl, getE_put _ _ _ (h.rh _)]
          by_cases eb : b = o.B
          · rw [if_pos eb, if_pos (.inl ⟨rfl, eb⟩)]
          · rw [if_neg eb, if_neg (by rintro (⟨_, q⟩ | ⟨q, _⟩); exact eb q; exact ea q)]
        · rw [if_neg ea2, if_neg (by rintro (⟨q, _⟩ | ⟨q, _⟩); exact ea2 q; exact ea q)]
    refine h.halves hrise (fun j => by rw [pG_in r1, pG_in h.rise]) (fun v => ?_) (fun v => ?_) (fun a b => ?_) (fun a => ?_)
    · rw [hh]; split
      · exact putE_rise (h.rh _) _ _
      · split
        · exact putE_rise (h.rh _) _ _
        · exact h.rh v
    · rw [hh]; split
      · exact hl _ _ hful.2
      · split
        · exact hl _ _ hful.1
        · exact h.few v
    · rw [hget, hget]
      by_cases q : (a = o.A ∧ b = o.B) ∨ (a = o.B ∧ b = o.A)
      · rw [if_pos q, if_pos (by rcases q with ⟨e1, e2⟩ | ⟨e1, e2⟩; exact .inr ⟨e2, e1⟩; exact .inl ⟨e2, e1⟩)]
      · rw [if_neg q, if_neg (by intro q'; apply q; rcases q' with ⟨e1, e2⟩ | ⟨e1, e2⟩; exact .inr ⟨e2, e1⟩; exact .inl ⟨e2, e1⟩)]
        exact h.sym a b
    · rw [hget, if_neg (by rintro (⟨e1, e2⟩ | ⟨e1, e2⟩); exact hAB (e1.symm.trans e2); exact hAB (e2.symm.trans e1))]
      exact h.self a
  rw [if_neg h5] at hrise ⊢
  by_cases h6 : o.kd = 6
  · rw [if_pos h6] at hrise ⊢
    have hAs : (getE G o.A).isSome = true := by rw [hx]; rfl
    have hjo : joinedG G o.A o.B = true := by
      unfold refG at hr
      rw [if_neg h1, if_pos (.inl h6)] at hr
      cases hq : joinedG G o.A o.B with
      | true => rfl
      | false => rw [hq] at hr; simp at hr
    have hBs : (getE G o.B).isSome = true := by
      unfold joinedG at hjo
      rw [h.sym] at hjo
      exact hG_there hjo
    have hAB : o.A ≠ o.B := fun e => by
      rw [h6] at hf
      simp [farB, pB] at hf
      exact hf.2 e.symm
    have r1 := halfOut_rise h.rise o.A o.B
    have hB1 : (getE (halfOut G o.A o.B) o.B).isSome = true := by rw [getE_halfOut h.rise, if_neg (fun e => hAB e.symm)]; exact hBs
    have hh : ∀ j, hG (halfOut (halfOut G o.A o.B) o.B o.A) j = if j = o.B then delE (hG G o.B) o.A else if j = o.A then delE (hG G o.A) o.B else hG G j := fun j => by
      have eB : hG (halfOut G o.A o.B) o.B = hG G o.B := by rw [hG_out h.rise o.B hAs o.B, if_neg (fun e => hAB e.symm)]
      rw [hG_out r1 o.A hB1 j, eB, hG_out h.rise o.B hAs j]
    have hget : ∀ a b, getE (hG (halfOut (halfOut G o.A o.B) o.B o.A) a) b = if (a = o.A ∧ b = o.B) ∨ (a = o.B ∧ b = o.A) then none else getE (hG G a) b := fun a b => by
      rw [hh]
      by_cases ea : a = o.B
      · subst ea
        rw [if_pos rfl, getE_del]
        by_cases eb : b = o.A
        · rw [if_pos eb, if_pos (.inr ⟨rfl, eb⟩)]
        · rw [if_neg eb, if_neg (by rintro (⟨q, _⟩ | ⟨_, q⟩); exact hAB q.symm; exact eb q)]
      · rw [if_neg ea]
        by_cases ea2 : a = o.A
        · subst ea2
          rw [if_pos rfl, getE_del]
          by_cases eb : b = o.B
          · rw [if_pos eb, if_pos (.inl ⟨rfl, eb⟩)]
          · rw [if_neg eb, if_neg (by rintro (⟨_, q⟩ | ⟨q, _⟩); exact eb q; exact ea q)]
        · rw [if_neg ea2, if_neg (by rintro (⟨q, _⟩ | ⟨q, _⟩); exact ea2 q; exact ea q)]
    have hl : ∀ v w, (delE (hG G v) w).length ≤ 16 := fun v w => by
      have := delE_len (h.rh v) w
      have := h.few v
      omega
    refine h.halves hrise (fun j => by rw [pG_out r1, pG_out h.rise]) (fun v => ?_) (fun v => ?_) (fun a b => ?_) (fun a => ?_)
    · rw [hh]; split
      · exact delE_rise (h.rh _) _
      · split
        · exact delE_rise (h.rh _) _
        · exact h.rh v
    · rw [hh]; split
      · exact hl _ _
      · split
        · exact hl _ _
        · exact h.few v
    · rw [hget, hget]
      by_cases q : (a = o.A ∧ b = o.B) ∨ (a = o.B ∧ b = o.A)
      · rw [if_pos q, if_pos (by rcases q with ⟨e1, e2⟩ | ⟨e1, e2⟩; exact .inr ⟨e2, e1⟩; exact .inl ⟨e2, e1⟩)]
      · rw [if_neg q, if_neg (by intro q'; apply q; rcases q' with ⟨e1, e2⟩ | ⟨e1, e2⟩; exact .inr ⟨e2, e1⟩; exact .inl ⟨e2, e1⟩)]
        exact h.sym a b
    · rw [hget, if_neg (by rintro (⟨e1, e2⟩ | ⟨e1, e2⟩); exact hAB (e1.symm.trans e2); exact hAB (e2.symm.trans e1))]
      exact h.self a
  rw [if_neg h6] at hrise ⊢
  exact h
theorem OkG.run {G : GV} (h : OkG G) {os : List Ox} (ho : ∀ o ∈ os, okO o = true) (hw : ∀ o ∈ os, o.wf) (hb : badG G os = none) : OkG (stG G os) := by
  induction os generalizing G with
  | nil => exact h
  | cons o os ih =>
    simp only [badG] at hb
    by_cases hr : refG G o = 0
    · rw [if_pos hr] at hb
      have hb' : badG (chgG G o) os = none := by cases hq : badG (chgG G o) os <;> simp [hq] at hb ⊢
      exact ih (h.change (ho o (by simp)) (hw o (by simp)) hr) (fun x hx => ho x (by simp [hx])) (fun x hx => hw x (by simp [hx])) hb'
    · rw [if_neg hr] at hb; cases hb
theorem OkG.next {G : GV} (h : OkG G) {r : Rq} (hw : ∀ o ∈ r.os, o.wf) : OkG (nextG G r) := by
  unfold nextG
  split
  · exact h
  · rename_i hc
    have hc : chkR r = 0 := by simpa using hc
    split
    · rename_i hk
      split
      · rename_i hb
        exact h.run (chk_tx hc hk).2 hw hb
      · exact h
    · exact h
end Go.Proofs.YtafenkepigmcaaaGreatDoor.Gr
