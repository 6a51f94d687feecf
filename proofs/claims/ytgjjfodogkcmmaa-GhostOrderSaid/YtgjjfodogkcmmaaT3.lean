/- ghost: hold, walked. -/
import Derived.Test.YtgjjfodogkcmmaaT2
namespace Go.Proofs.Ytgjjfodogkcmmaa.Gh
open Go Go.RowKit Ytgjjfodogkcmmaa.So
/-- A half, or a property: what it is called, and its value. -/
abbrev Hf := Int × Int × Int × ByteArray
def hc (t : Hf) : List Value := [.int .u32 t.1, .int .u8 t.2.1, .int .i64 t.2.2.1, .string t.2.2.2]
/-- From an address on these halves stand, in a block that is there. -/
def RdH (w : World) (ao : Option Addr) (L : List Hf) : Prop :=
  ∀ (i : Nat) (t : Hf), L[i]? = some t → ∃ b off, ao = some ⟨b, off, none⟩ ∧ b < w.heap.size ∧ w.cell? ⟨b, off + i * 4, none⟩ = some (.int .u32 t.1) ∧ w.cell? ⟨b, off + i * 4 + 1, none⟩ = some (.int .u8 t.2.1) ∧ w.cell? ⟨b, off + i * 4 + 2, none⟩ = some (.int .i64 t.2.2.1) ∧ w.cell? ⟨b, off + i * 4 + 3, none⟩ = some (.string t.2.2.2)
theorem RdH.turned {w w' : World} {ao : Option Addr} {L : List Hf} {G : Nat → Prop} (h : RdH w ao L) (ht : Turned G w w') (hG : ∀ ad, ao = some ad → L ≠ [] → ¬ G ad.block) : RdH w' ao L := by
  intro i t hi
  obtain ⟨b, off, rfl, hb, h1, h2, h3, h4⟩ := h i t hi
  have hg : ¬ G b := hG _ rfl (by intro e; rw [e] at hi; simp at hi)
  have hbl := ht.block b hb hg
  have hc : ∀ o, w'.cell? ⟨b, o, none⟩ = w.cell? ⟨b, o, none⟩ := fun o => by simp [World.cell?, hbl]
  exact ⟨b, off, rfl, Nat.lt_of_lt_of_le hb ht.size, (hc _).trans h1, (hc _).trans h2, (hc _).trans h3, (hc _).trans h4⟩
theorem cell1 {w : World} {p : Nat} {v : Value} {t : TypeId} (h : w.heap[p]? = some (.cells #[v] t (0, 0))) : w.cell? ⟨p, 0, none⟩ = some v := by simp [World.cell?, h]
theorem own_slice {w : World} {B : Nat} {v : Value} {n : Nat} {xs : List Value} (h : w.ownsRow B 24 1 v n xs) : ∃ ao cap, v = .slice ao n cap ∧ n ≤ cap ∧ ∀ (i : Nat) (x : Value), xs[i]? = some x → ∃ g, ao = some ⟨g, 0, none⟩ ∧ g < w.heap.size ∧ w.cell? ⟨g, i, none⟩ = some x := by
  rcases h.2 with ⟨rfl, h0⟩ | ⟨g, cap, cur, rfl, h1, h2, h3, h4, h5, h6⟩
  · refine ⟨none, 0, by rw [h0], by omega, fun i x hx => ?_⟩
    have := h.1
    rw [h0] at this
    have : xs = [] := List.eq_nil_of_length_eq_zero (by simpa using this)
    subst this
    simp at hx
  · refine ⟨_, cap, rfl, h3, fun i x hx => ⟨g, rfl, (Array.getElem?_eq_some_iff.1 h2).1, ?_⟩⟩
    rw [← h6, List.getElem?_take] at hx
    split at hx
    · simp only [World.cell?, h2]
      simpa using hx
    · cases hx
theorem tat_named {w w' : World} {B m m' p a b : Nat} {F : Nat → Prop} {V : Int → Option Value} {c c' : Int → Nat} {S : GS} (h : TAt w B m F p a b V c S) (hm : MapV (.int .i64 0) w' b m' (nV c')) (hmm : m ≤ m') (hg : w.grownBy w' (some b)) : TAt w' B m' F p a b V c' S := by
  have hp := h.pa
  refine ⟨(hg.block p (h.hi p h.fp) (fun e => hp.2 (Option.some.inj e))).trans h.cell, (h.fars.kept hg (fun e => h.ab (Option.some.inj e))).mono hmm, hm, h.ab, fun e he => ?_, h.only, h.keys, h.wf, Nat.le_trans h.base hg.size, h.fp, h.fa, h.fb, fun k hk => Nat.lt_of_lt_of_le (h.hi k hk) hg.size, h.low⟩
  obtain ⟨v, h1, h2, h3⟩ := h.rows e he
  refine ⟨v, h1, own_on h2 (fun g e1 => hg.block g (h.hi g (h3 g e1)) (fun e2 => ?_)), h3⟩
  have e2 := Option.some.inj e2
  subst e2
  obtain ⟨cur, e3⟩ := row_cells h2 e1
  obtain ⟨es, cl, e4⟩ := map_block h.named
  rw [e3] at e4; cases e4
theorem tat_fars {w w' : World} {B m m' p a b : Nat} {F F' : Nat → Prop} {V V' : Int → Option Value} {c : Int → Nat} {S S' : GS} (h : TAt w B m F p a b V c S) (hm : MapV (.slice none 0 0) w' a m' V') (hmm : m ≤ m') (hg : w.grownBy w' (some a))
    (rows : ∀ e ∈ S', ∃ v, V' e.1 = some v ∧ w.ownsRow B 24 1 v e.2.length (u32s e.2) ∧ ∀ g, v.ownBlock = some g → F' g) (only : ∀ k, In32 k → V' k ≠ none → heldG S' k) (keys : (S'.map Prod.fst).Nodup) (wf : ∀ e ∈ S', In32 e.1 ∧ ∀ x ∈ e.2, In32 x)
    (hF : ∀ k, F k → F' k) (hi : ∀ k, F' k → k < w.heap.size) (low : ∀ k, F' k → B ≤ k) : TAt w' B m' F' p a b V' c S' := by
  have hp := h.pa
  refine ⟨(hg.block p (h.hi p h.fp) (fun e => hp.1 (Option.some.inj e))).trans h.cell, hm, (h.named.kept hg (fun e => h.ab (Option.some.inj e).symm)).mono hmm, h.ab, fun e he => ?_, only, keys, wf, Nat.le_trans h.base hg.size, hF _ h.fp, hF _ h.fa, hF _ h.fb, fun k hk => Nat.lt_of_lt_of_le (hi k hk) hg.size, low⟩
  obtain ⟨v, h1, h2, h3⟩ := rows e he
  refine ⟨v, h1, own_on h2 (fun g e1 => hg.block g (hi g (h3 g e1)) (fun e2 => ?_)), h3⟩
  have e2 := Option.some.inj e2
  subst e2
  obtain ⟨cur, e3⟩ := row_cells h2 e1
  obtain ⟨es, cl, e4⟩ := map_block h.fars
  rw [e3] at e4; cases e4
/-- The vertex that came stands in a block of its own; of what was there the tally alone has turned. -/
def Wv (w : World) (F : Nat → Prop) (vc : Array Value) (wr : World) : Prop := wr.heap[w.heap.size]? = some (.cells vc 28 (0, 0)) ∧ Turned F w wr
theorem Wv.step {w wr w' : World} {F : Nat → Prop} {vc : Array Value} {G : Nat → Prop} (h : Wv w F vc wr) (ht : Turned G wr w') (hG : ∀ k, G k → F k ∨ w.heap.size < k) (hF : ¬ F w.heap.size) : Wv w F vc w' :=
  ⟨(ht.block _ (Array.getElem?_eq_some_iff.1 h.1).1 (fun e => (hG _ e).elim hF (fun h => by omega))).trans h.1, h.2.trans ht (fun i hi => (hG i hi).imp id (fun h => by omega))⟩
theorem Wv.below {w wr w' : World} {F : Nat → Prop} {vc : Array Value} (h : Wv w F vc wr) (hb : Below wr.heap.size wr w') (hF : ¬ F w.heap.size) : Wv w F vc w' := h.step (G := fun _ => False) (below_any hb) (fun _ h => h.elim) hF
theorem Wv.cells {w wr : World} {F : Nat → Prop} {x0 x1 x2 x3 : Value} (h : Wv w F #[x0, x1, x2, x3] wr) : wr.cell? ⟨w.heap.size, 0, none⟩ = some x0 ∧ wr.cell? ⟨w.heap.size, 1, none⟩ = some x1 ∧ wr.cell? ⟨w.heap.size, 2, none⟩ = some x2 ∧ wr.cell? ⟨w.heap.size, 3, none⟩ = some x3 := by
  simp [World.cell?, h.1]
end Go.Proofs.Ytgjjfodogkcmmaa.Gh
