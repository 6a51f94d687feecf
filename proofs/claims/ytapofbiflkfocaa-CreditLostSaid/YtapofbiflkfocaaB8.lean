/- credit: a queue: a row of the call's own from which the head is cut again and again. -/
import Derived.Test.YtapofbiflkfocaaB6
import Derived.ArgAppend
namespace Go.Proofs.Ytapofbiflkfocaa.Cr
open Go Go.RowKit
theorem setCells_block (b : Nat) : ∀ (vs : List Value) (o : Nat) (w : World) (cur : Array Value) (t : TypeId), w.heap[b]? = some (.cells cur t (0, 0)) → ∃ cur', cur'.size = cur.size ∧ (w.setCells b o vs).heap[b]? = some (.cells cur' t (0, 0))
  | [], _, _, cur, _, h => ⟨cur, rfl, h⟩
  | v :: vs, o, w, cur, t, h => by
    obtain ⟨c2, h1, h2⟩ := setCells_block b vs (o + 1) (w.setCell ⟨b, o, none⟩ v) _ t (set_block (i := o) (v := v) h)
    exact ⟨c2, by rw [h1]; simp, h2⟩
theorem setCells_grown (b : Nat) : ∀ (vs : List Value) (o : Nat) (w : World), w.grownBy (w.setCells b o vs) (some b)
  | [], _, _ => ⟨rfl, rfl, rfl, Nat.le_refl _, fun _ _ _ => rfl⟩
  | v :: vs, o, w => (grown_set w b o v).trans (setCells_grown b vs (o + 1) _)
/-- A queue's messages, wherever in its row it begins. -/
def QRow (w : World) (B : Nat) (v : Value) (L : List Ms) : Prop :=
  (∃ ao, v = .slice ao 0 0 ∧ L = []) ∨ ∃ g off cap cur, v = .slice (some ⟨g, off, none⟩) L.length cap ∧ B ≤ g ∧ w.heap[g]? = some (.cells cur 34 (0, 0)) ∧ off + cap * 3 = cur.size ∧ L.length ≤ cap ∧ cap ≤ maxLen ∧ ∀ j u, (ms L)[j]? = some u → w.cell? ⟨g, off + j, none⟩ = some u
section
variable {w w' : World} {B : Nat} {v : Value} {L : List Ms}
theorem QRow.of_own (h : w.ownsRow B 34 3 v L.length (ms L)) : QRow w B v L := by
  rcases h.2 with ⟨h0, h1⟩ | ⟨g, cap, cur, h0, h1, h2, h3, h4, h5, h6⟩
  · exact .inl ⟨none, h0, List.eq_nil_of_length_eq_zero h1⟩
  · refine .inr ⟨g, 0, cap, cur, h0, h1, h2, by omega, h3, h4, fun j u hu => ?_⟩
    subst h0
    have := h.cells (g := g) rfl j u hu
    rwa [Go.WideShapes.add_plain] at this
theorem QRow.on {Z : Nat → Prop} (h : QRow w B v L) (ht : Turned Z w w') (hZ : ∀ g c, w.heap[g]? = some (.cells c 34 (0, 0)) → ¬ Z g) : QRow w' B v L := by
  rcases h with h | ⟨g, off, cap, cur, h0, h1, h2, h3, h4, h5, h6⟩
  · exact .inl h
  · have hb := ht.block g (Array.getElem?_eq_some_iff.1 h2).1 (hZ g cur h2)
    exact .inr ⟨g, off, cap, cur, h0, h1, hb.trans h2, h3, h4, h5, fun j u hu => by
      have := h6 j u hu
      simp only [World.cell?, hb] at this ⊢
      exact this⟩
theorem QRow.below (h : QRow w B v L) (hb : Below w.heap.size w w') : QRow w' B v L := h.on (Z := fun _ => False) (below_any hb) (fun _ _ _ => id)
theorem QRow.form (h : QRow w B v L) : ∃ ao cap, v = .slice ao L.length cap := by
  rcases h with ⟨ao, rfl, rfl⟩ | ⟨g, off, cap, cur, h0, _⟩
  · exact ⟨ao, 0, rfl⟩
  · exact ⟨_, cap, h0⟩
/-- Its head. -/
theorem QRow.head {x : Ms} (h : QRow w B v (x :: L)) : ∃ g off cap, v = .slice (some ⟨g, off, none⟩) (L.length + 1) cap ∧ B ≤ g ∧ g < w.heap.size ∧
    w.cell? ⟨g, off, none⟩ = some (.int .u64 x.1) ∧ w.cell? ⟨g, off + 1, none⟩ = some (.int .u64 x.2.1) ∧ w.cell? ⟨g, off + 2, none⟩ = some (.int .i64 x.2.2) := by
  rcases h with ⟨_, _, h⟩ | ⟨g, off, cap, cur, h0, h1, h2, h3, h4, h5, h6⟩
  · cases h
  · exact ⟨g, off, cap, h0, h1, (Array.getElem?_eq_some_iff.1 h2).1, h6 0 _ rfl, h6 1 _ rfl, h6 2 _ rfl⟩
/-- Its tail. -/
theorem QRow.tail {x : Ms} (h : QRow w B v (x :: L)) : ∃ v', (∀ w, (Instr.slice 35 v (some (.int .i64 1)) none none).run Try.prog w = .ok v' w) ∧ QRow w B v' L ∧ v'.ownBlock = v.ownBlock := by
  rcases h with ⟨_, _, h⟩ | ⟨g, off, cap, cur, h0, h1, h2, h3, h4, h5, h6⟩
  · cases h
  · rw [List.length_cons] at h4
    subst h0
    have e1 : L.length + 1 - 1 = L.length := by omega
    have e2 : 1 ≤ L.length + 1 := by omega
    by_cases hc : cap = 1
    · subst hc
      have hl : L = [] := List.eq_nil_of_length_eq_zero (by omega)
      refine ⟨.slice (some ⟨g, off, none⟩) 0 0, fun W => ?_, .inl ⟨_, rfl, hl⟩, rfl⟩
      subst hl
      simp [Instr.slice, Instr.sliceBounds, Instr.sliceBound, asIntOf, go_sem]
    · refine ⟨.slice (some ⟨g, off + 3, none⟩) L.length (cap - 1), fun W => ?_, .inr ⟨g, off + 3, cap - 1, cur, rfl, h1, h2, by omega, by omega, by omega, fun j u hu => ?_⟩, rfl⟩
      · simp [Instr.slice, Instr.sliceBounds, Instr.sliceBound, asIntOf, go_sem, hc, Addr.add]
        exact fun hh => absurd hh (by omega)
      · have := h6 (3 + j) u (by
          rw [show x :: L = [x] ++ L from rfl, ms_app, List.getElem?_append_right (by rw [show (ms [x]).length = 3 from rfl]; omega), show (ms [x]).length = 3 from rfl, show 3 + j - 3 = j by omega]
          exact hu)
        rwa [show off + (3 + j) = off + 3 + j by omega] at this
/-- One more at its end. -/
theorem QRow.push (h : QRow w B v L) (hB : B ≤ w.heap.size) (x : Ms) (ad : Addr) (c : Nat) (ty : TypeId) (hnews : ∀ j u, (ms [x])[j]? = some u → w.cell? (ad.add j) = some u) (hL : L.length ≤ 1000000) :
    ∃ v' w', (Builtin.append_ #[35, 35] ty #[v, .slice (some ad) 1 c]).run Try.prog w = .ok v' w' ∧ QRow w' B v' (L ++ [x]) ∧ w.grownBy w' v.ownBlock ∧ (v'.ownBlock = v.ownBlock ∨ ∃ k, v'.ownBlock = some k ∧ w.heap.size ≤ k ∧ k < w'.heap.size) := by
  obtain ⟨i0, hi0, hz0, hz1, hz2⟩ := info_parts info34
  have hlen : (L ++ [x]).length = L.length + 1 := by simp
  have grows : ∀ (b : Addr) (n cap : Nat), v = .slice (some b) n cap → n = L.length → cap < n + 1 → (∀ j u, (ms L)[j]? = some u → w.cell? (b.add j) = some u) → ∃ v' w', (Builtin.append_ #[35, 35] ty #[v, .slice (some ad) 1 c]).run Try.prog w = .ok v' w' ∧ QRow w' B v' (L ++ [x]) ∧ w.grownBy w' v.ownBlock ∧ (v'.ownBlock = v.ownBlock ∨ ∃ k, v'.ownBlock = some k ∧ w.heap.size ≤ k ∧ k < w'.heap.size) := by
    intro b n cap hv hn hg holds
    subst hv
    subst hn
    obtain ⟨v', w', hrun, hown, hgr⟩ := run_append_arg_grows (P := Try.prog) w 35 ty 34 i0 _ 3 24 Try.underlying35 hi0 hz0 hz1 hz2 rfl (by decide) b L.length cap (ms L) (ms_len L) holds ad 1 c (ms [x]) rfl hnews hg (by unfold maxLen; omega) (by omega)
    rw [← ms_app] at hown
    have hown' : w'.ownsRow w.heap.size 34 3 v' (L ++ [x]).length (ms (L ++ [x])) := by rw [hlen]; exact hown
    refine ⟨v', w', hrun, ?_, ⟨hgr.os, hgr.tape, hgr.output, hgr.size, fun k hk _ => hgr.block k hk (by simp)⟩, ?_⟩
    · rcases hown'.2 with ⟨_, h1⟩ | ⟨g, cap', cur, e0, e1, e2, e3, e4, e5, e6⟩
      · rw [hlen] at h1; omega
      · exact QRow.of_own ⟨hown'.1, .inr ⟨g, cap', cur, e0, by omega, e2, e3, e4, e5, e6⟩⟩
    · rcases hown'.2 with ⟨_, h1⟩ | ⟨g, cap', cur, e0, e1, e2, _⟩
      · rw [hlen] at h1; omega
      · exact .inr ⟨g, by rw [e0]; rfl, e1, (Array.getElem?_eq_some_iff.1 e2).1⟩
  rcases h with ⟨ao, rfl, rfl⟩ | ⟨g, off, cap, cur, rfl, h1, h2, h3, h4, h5, h6⟩
  · cases ao with
    | none =>
      obtain ⟨v', w', hrun, r1, r2, _⟩ := run_append_own (P := Try.prog) w w.heap.size 35 ty 34 i0 _ 3 24 Try.underlying35 hi0 hz0 hz1 hz2 rfl (by decide) (.slice none 0 0) 0 [] (World.ownsRow_nil w _ 34 3) ad 1 c (ms [x]) rfl hnews (ms_one _) (by unfold maxLen; omega) (by omega) (Nat.le_refl _)
      have r1' : w'.ownsRow w.heap.size 34 3 v' 1 (ms [x]) := by simpa using r1
      refine ⟨v', w', hrun, ?_, r2, ?_⟩
      · rcases r1'.2 with ⟨_, h1⟩ | ⟨g, cap', cur, e0, e1, e2, e3, e4, e5, e6⟩
        · omega
        · exact QRow.of_own (L := [x]) ⟨r1'.1, .inr ⟨g, cap', cur, e0, by omega, e2, e3, e4, e5, e6⟩⟩
      · rcases r1'.2 with ⟨_, h1⟩ | ⟨g, cap', cur, e0, e1, e2, _⟩
        · omega
        · exact .inr ⟨g, by rw [e0]; rfl, e1, (Array.getElem?_eq_some_iff.1 e2).1⟩
    | some a => exact grows a 0 0 rfl rfl (by omega) (fun j u hu => by simp [ms] at hu)
  · by_cases hr : L.length + 1 ≤ cap
    · have hin : ∀ j, j < 3 → off + L.length * 3 + j < cur.size := fun j hj => by omega
      have hcell : ∀ j, j < (ms [x]).length → (w.cell? ⟨g, off + L.length * 3 + j, none⟩).isSome = true := fun j hj => by
        have := hin j hj
        simp [World.cell?, h2, this]
      have hfz : ∀ j, j < (ms [x]).length → w.frozen? ⟨g, off + L.length * 3 + j, none⟩ = false := fun j _ => by simp [World.frozen?, h2]
      have hrun := run_append_room_cells (P := Try.prog) w 35 ty 34 i0 Try.underlying35 hi0 g off L.length cap ad 1 c (ms [x]) (by rw [hz1]; rfl) hnews (ms_one _) hr (by rw [hz1]; exact hcell) (by rw [hz1]; exact hfz)
      rw [hz1] at hrun
      obtain ⟨cur', k1, k2⟩ := setCells_block g (ms [x]) (off + L.length * 3) w cur 34 h2
      refine ⟨_, _, hrun, .inr ⟨g, off, cap, cur', by rw [hlen], h1, k2, by omega, by omega, h5, fun j u hu => ?_⟩, setCells_grown g _ _ w, .inl rfl⟩
      rw [ms_app] at hu
      by_cases hj : j < L.length * 3
      · rw [List.getElem?_append_left (by rw [ms_len]; exact hj)] at hu
        rw [World.cell?_setCells_out g _ _ _ _ (fun _ _ => .inl (by show off + j < off + L.length * 3; omega))]
        exact h6 j u hu
      · rw [List.getElem?_append_right (by rw [ms_len]; omega), ms_len] at hu
        have hj3 := (List.getElem?_eq_some_iff.1 hu).1
        have := World.cell?_setCells_in g (ms [x]) (off + L.length * 3) w hcell (j - L.length * 3) hj3
        rw [show off + L.length * 3 + (j - L.length * 3) = off + j by omega] at this
        rw [this, ← hu, List.getElem?_eq_getElem hj3]
    · exact grows ⟨g, off, none⟩ L.length cap rfl rfl (by omega) (fun j u hu => by rw [Addr.add_lit]; exact h6 j u hu)
end
theorem wpList_push {w : World} {B : Nat} {v : Value} {L : List Ms} {ops : Array Oper} {rest : List Oper} {o : Oper} {a : Act} {Q : Exit → Act → World → Prop} (hgd : o.guard = none) (s x : Operand)
    (ho : o.op = .call { callee := .builtin .append, args := #[s, x], argTypes := #[35, 35] })
    (h : QRow w B v L) (hB : B ≤ w.heap.size) (m : Ms) (ad : Addr) (c : Nat) (hs : a.eval s = v) (hx : a.eval x = .slice (some ad) 1 c) (hnews : ∀ j u, (ms [m])[j]? = some u → w.cell? (ad.add j) = some u) (hL : L.length ≤ 1000000)
    (hK : ∀ v' w', QRow w' B v' (L ++ [m]) → w.grownBy w' v.ownBlock → (v'.ownBlock = v.ownBlock ∨ ∃ k, v'.ownBlock = some k ∧ w.heap.size ≤ k ∧ k < w'.heap.size) → wpList Try.prog ops Q rest (a.put o.dst v') w') : wpList Try.prog ops Q (o :: rest) a w := by
  refine wpList_plain hgd fun K hKK => ?_
  obtain ⟨v', w', hr, h1, h2, h3⟩ := h.push hB m ad c o.type hnews hL
  unfold Oper.wp execOp
  simp only [ho, resolve, invoke, builtin, Sem.run_bind, Sem.run_pure, Result.andThen_ok, List.map_toArray, List.map_cons, List.map_nil, hs, hx, hr]
  exact hKK _ _ (hK v' w' h1 h2 h3)
end Go.Proofs.Ytapofbiflkfocaa.Cr
