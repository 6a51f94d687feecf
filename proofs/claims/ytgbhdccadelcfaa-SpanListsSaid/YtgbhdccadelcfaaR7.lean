/- span: what a deed makes of both sets. -/
import Derived.Test.YtgbhdccadelcfaaR6
namespace Go.Proofs.Ytgbhdccadelcfaa.Sp
open Go Go.RowKit
theorem spm_all {Ps : List (Nat × DL)} {E : List Int} (h : EdOk Ps E) (i : Nat) (hi : i ≤ E.length) : ∃ R, SpM Ps E i R := by
  induction i with
  | zero => exact ⟨[], sp_start h⟩
  | succ i ih =>
    obtain ⟨R, hR⟩ := ih (by omega)
    have hx : E[i]? = some E[i] := List.getElem?_eq_getElem (by omega)
    cases hf : allD Ps E[i] with
    | false => exact ⟨R, sp_skip h hR hx hf⟩
    | true =>
      rcases List.eq_nil_or_concat R with rfl | ⟨Q, ⟨c, d⟩, hq⟩
      · exact ⟨_, sp_more h hR hx hf (fun t ht => by cases ht)⟩
      · rw [List.concat_eq_append] at hq
        subst hq
        have hd := hR.hi (c, d) (by simp)
        rw [beta_at hx] at hd
        simp only at hd
        by_cases he : d = E[i] - 1
        · subst he
          exact ⟨_, sp_join h hR hx hf⟩
        · refine ⟨_, sp_more h hR hx hf (fun t ht => ?_)⟩
          obtain ⟨_, k2, k3⟩ := (canon_app Q [(c, d)]).1 hR.can
          have k4 := k2.2 (c, d) (by simp)
          simp only at k4
          rcases List.mem_append.1 ht with ht | ht
          · have := k3 t ht (c, d) (by simp)
            simp only at this
            omega
          · rw [List.mem_singleton] at ht
            subst ht
            simp only
            omega
theorem spof_len {D : DL} {M : SL} (h : SpOf D M) (hd : InD D) : M.length ≤ 1 + 2 * D.length := by
  have hE := edges_ok [(0, D)] (fun q hq => by rw [List.mem_singleton] at hq; subst hq; exact hd)
  obtain ⟨R, hR⟩ := spm_all hE _ (Nat.le_refl _)
  have hb : beta (edgesL [(0, D)]) (edgesL [(0, D)]).length = 4294967296 := by unfold beta; rw [List.getElem?_eq_none (Nat.le_refl _)]; rfl
  have e : M = R := spof_one h ⟨hR.can, fun n h0 h1 => by rw [hR.mem n h0 (by rw [hb]; omega), allD_one]⟩
  have hl := edgesT_len [(0, D)] 1
  rw [e]
  have h2 := hR.len
  unfold edgesT at hl
  simp only [List.take_succ_cons, List.take_zero, total_one] at hl
  omega
theorem hasD_app (D : DL) (d : Int × Int × Bool) (n : Int) : hasD (D ++ [d]) n = if d.1 ≤ n ∧ n ≤ d.2.1 then d.2.2 else hasD D n := by simp [hasD, List.foldl_append]
theorem spof_add {D : DL} {L M : SL} {a b : Int} (h : SpOf D L ∨ SpOf (D ++ [(a, b, true)]) L) (hc : Canon M) (hM : ∀ n, mem M n ↔ mem L n ∨ (a ≤ n ∧ n ≤ b)) : SpOf (D ++ [(a, b, true)]) M := by
  refine ⟨hc, fun n h0 h1 => ?_⟩
  rw [hM, hasD_app]
  by_cases hn : a ≤ n ∧ n ≤ b
  · rw [if_pos hn]
    exact ⟨fun _ => rfl, fun _ => .inr hn⟩
  · rw [if_neg hn]
    rcases h with h | h
    · rw [h.mem n h0 h1]
      exact ⟨fun h => h.elim id (fun h => absurd h hn), .inl⟩
    · rw [h.mem n h0 h1, hasD_app, if_neg hn]
      exact ⟨fun h => h.elim id (fun h => absurd h hn), .inl⟩
theorem spof_drop {D : DL} {L M : SL} {a b : Int} (h : SpOf (D ++ [(a, b, true)]) L ∨ SpOf (D ++ [(a, b, false)]) L) (hc : Canon M) (hM : ∀ n, mem M n ↔ mem L n ∧ ¬ (a ≤ n ∧ n ≤ b)) : SpOf (D ++ [(a, b, false)]) M := by
  refine ⟨hc, fun n h0 h1 => ?_⟩
  rw [hM, hasD_app]
  by_cases hn : a ≤ n ∧ n ≤ b
  · rw [if_pos hn]
    exact ⟨fun h => absurd hn h.2, fun h => by cases h⟩
  · rw [if_neg hn]
    rcases h with h | h
    · rw [h.mem n h0 h1, hasD_app, if_neg hn]
      exact ⟨fun h => h.1, fun h => ⟨h, hn⟩⟩
    · rw [h.mem n h0 h1, hasD_app, if_neg hn]
      exact ⟨fun h => h.1, fun h => ⟨h, hn⟩⟩
theorem ind_app {D : DL} (h : InD D) {a b : Int} (c : Bool) (h0 : 0 ≤ a) (hab : a ≤ b) (hb : b ≤ 4294967295) : InD (D ++ [(a, b, c)]) := fun d hd => by
  rcases List.mem_append.1 hd with hd | hd
  · exact h d hd
  · rw [List.mem_singleton] at hd
    subst hd
    exact ⟨h0, hab, hb⟩
/-- Both sets at a world, and a block that stands: what the set has is one of two things. -/
def P2 (n0 : Nat) (w0 : World) (p q z : Nat) (D : DL) (o : Obj) (A B : DL) (w : World) : Prop := PlG n0 w0 p q z D o (fun M => SpOf A M ∨ SpOf B M) w
def P1 (n0 : Nat) (w0 : World) (p q z : Nat) (D : DL) (o : Obj) (A : DL) (w : World) : Prop := PlG n0 w0 p q z D o (SpOf A) w
theorem P1.two {n0 p q z : Nat} {w0 w : World} {D A B : DL} {o : Obj} (h : P1 n0 w0 p q z D o A w) : P2 n0 w0 p q z D o A B w := h.imp (fun _ _ h => .inl h)
theorem P1.two' {n0 p q z : Nat} {w0 w : World} {D A B : DL} {o : Obj} (h : P1 n0 w0 p q z D o A w) : P2 n0 w0 p q z D o B A w := h.imp (fun _ _ h => .inr h)
abbrev deedO (a b : Int) (c : Bool) : Obj := .cells #[.int .u32 a, .int .u32 b, .bool c] 33
theorem cellsO {w : World} {z : Nat} {a b : Int} {c : Bool} (h : w.heap[z]? = some (deedO a b c)) : w.cell? ⟨z, 0, none⟩ = some (.int .u32 a) ∧ w.cell? ⟨z, 1, none⟩ = some (.int .u32 b) ∧ w.cell? ⟨z, 2, none⟩ = some (.bool c) := by simp [World.cell?, h]
/-- What a step of a region that draws its order keeps. -/
def Sx (z : Nat) (a b : Int) (c : Bool) (Pp : World → Prop) (w : World) : Prop := (w.cell? ⟨z, 0, none⟩ = some (.int .u32 a) ∧ w.cell? ⟨z, 1, none⟩ = some (.int .u32 b) ∧ w.cell? ⟨z, 2, none⟩ = some (.bool c)) ∧ Hid (Pp w)
theorem PlG.cells {n0 p q z : Nat} {w0 w : World} {D : DL} {a b : Int} {c : Bool} {G : SL → Prop} (h : PlG n0 w0 p q z D (deedO a b c) G w) : w.cell? ⟨z, 0, none⟩ = some (.int .u32 a) ∧ w.cell? ⟨z, 1, none⟩ = some (.int .u32 b) ∧ w.cell? ⟨z, 2, none⟩ = some (.bool c) := by
  obtain ⟨M, _, _, h⟩ := h
  exact cellsO h
theorem p_add {n0 p q z : Nat} {w0 w : World} {D : DL} {a b : Int} {c : Bool} (h : P2 n0 w0 p q z D (deedO a b c) D (D ++ [(a, b, true)]) w) (hD : InD D) (hl : D.length ≤ 100) (h0 : 0 ≤ a) (hab : a ≤ b) (hb : b ≤ 4294967295) :
    Calls Try.prog 10 #[.pointer (some ⟨p, 0, none⟩), .int .u32 a, .int .u32 b] w fun e w' => e = .returned (.int .i64 0) ∧ P1 n0 w0 p q z D (deedO a b c) (D ++ [(a, b, true)]) w' := by
  obtain ⟨M, ⟨v, u, F, F2, h1⟩, h2, h3⟩ := h
  have hml : M.length ≤ 1000 := by
    rcases h2 with h2 | h2
    · have := spof_len h2 hD; omega
    · have := spof_len h2 (ind_app hD true h0 hab hb); simp only [List.length_append, List.length_singleton] at this; omega
  refine (add_ok n0 p F v M a b w h1.s h0 hab hb hml).mono ?_
  rintro e w' ⟨rfl, M', m1, m2, m3⟩
  obtain ⟨k1, k2⟩ := pl_did h1 m3
  exact ⟨rfl, M', k1, spof_add h2 m3.can m1, (k2 z rfl).trans h3⟩
theorem p_drop {n0 p q z : Nat} {w0 w : World} {D : DL} {a b : Int} {c : Bool} (h : P2 n0 w0 p q z D (deedO a b c) (D ++ [(a, b, true)]) (D ++ [(a, b, false)]) w) (hD : InD D) (hl : D.length ≤ 100) (h0 : 0 ≤ a) (hab : a ≤ b) (hb : b ≤ 4294967295) :
    Calls Try.prog 11 #[.pointer (some ⟨p, 0, none⟩), .int .u32 a, .int .u32 b] w fun e w' => e = .returned (.int .i64 0) ∧ P1 n0 w0 p q z D (deedO a b c) (D ++ [(a, b, false)]) w' := by
  obtain ⟨M, ⟨v, u, F, F2, h1⟩, h2, h3⟩ := h
  have hml : M.length ≤ 1000 := by
    rcases h2 with h2 | h2
    · have := spof_len h2 (ind_app hD true h0 hab hb); simp only [List.length_append, List.length_singleton] at this; omega
    · have := spof_len h2 (ind_app hD false h0 hab hb); simp only [List.length_append, List.length_singleton] at this; omega
  refine (drop_ok n0 p F v M a b w h1.s h0 hab hb hml).mono ?_
  rintro e w' ⟨rfl, M', m1, m2, m3⟩
  obtain ⟨k1, k2⟩ := pl_did h1 m3
  exact ⟨rfl, M', k1, spof_drop h2 m3.can m1, (k2 z rfl).trans h3⟩
end Go.Proofs.Ytgbhdccadelcfaa.Sp
