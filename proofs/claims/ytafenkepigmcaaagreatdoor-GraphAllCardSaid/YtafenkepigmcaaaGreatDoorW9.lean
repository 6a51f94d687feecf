/- graph: a transaction of which an operation is refused; vertices that were read ahead. -/
import Derived.Test.YtafenkepigmcaaaGreatDoorW2
import Derived.Test.YtafenkepigmcaaaGreatDoorW8
namespace Go.Proofs.YtafenkepigmcaaaGreatDoor.Gr
open Go Go.RowKit YtafenkepigmcaaaGreatDoor.So
theorem bad_math : ∀ {os : List Ox} {G : GV} {i : Nat} {c : Int}, badG G os = some (i, c) → i < os.length ∧ c ≠ 0 ∧ badG G (os.take i) = none
  | [], G, i, c, h => by cases h
  | o :: os, G, i, c, h => by
    unfold badG at h
    split at h
    · rename_i hr
      obtain ⟨⟨j, d⟩, hj, he⟩ := Option.map_eq_some_iff.1 h
      simp only [Prod.mk.injEq] at he
      obtain ⟨rfl, rfl⟩ := he
      obtain ⟨h1, h2, h3⟩ := bad_math hj
      refine ⟨by simp; omega, h2, ?_⟩
      rw [List.take_succ_cons]
      unfold badG
      rw [if_pos hr, h3]
      rfl
    · rename_i hr
      simp only [Option.some.injEq, Prod.mk.injEq] at h
      obtain ⟨rfl, rfl⟩ := h
      exact ⟨by simp, hr, rfl⟩
def rTx (os : List Ox) : Rq := ⟨1, os, 0, 0, 0⟩
theorem chk_txi (os : List Ox) : chkR (rTx os) = 0 ↔ (1 ≤ os.length ∧ os.length ≤ 6) ∧ os.all okO = true := by
  unfold chkR rTx chkTx
  simp only
  rw [if_pos trivial]
  by_cases h1 : os.length = 0 ∨ 6 < os.length
  · rw [if_pos h1]
    exact ⟨fun h => (by cases h), fun h => (by omega)⟩
  · rw [if_neg h1]
    cases h2 : os.all okO
    · rw [if_pos (by simp)]
      exact ⟨fun h => (by cases h), fun h => (by cases h.2)⟩
    · rw [if_neg (by simp)]
      exact ⟨fun _ => ⟨by omega, rfl⟩, fun _ => rfl⟩
theorem chk_take {os : List Ox} {i : Nat} (h : chkR (rTx os) = 0) (h0 : 0 < i) (hi : i ≤ os.length) : chkR (rTx (os.take i)) = 0 := by
  rw [chk_txi] at h ⊢
  refine ⟨by rw [List.length_take]; omega, ?_⟩
  rw [List.all_eq_true] at h ⊢
  exact fun x hx => h.2 x (List.mem_of_mem_take hx)
theorem ans_tx {G : GV} {os : List Ox} (h : chkR (rTx os) = 0) : ansG G (rTx os) = (match badG G os with | none => ⟨0, 0, valG G os, []⟩ | some (i, c) => ⟨c, i, [], []⟩) := by
  unfold ansG
  rw [if_neg (by simp [h])]
  rfl
theorem next_tx {G : GV} {os : List Ox} {p : Nat × Int} (h : chkR (rTx os) = 0) (hb : badG G os = some p) : nextG G (rTx os) = G := by
  unfold nextG
  rw [if_neg (by simp [h])]
  show (match badG G os with | none => stG G os | some _ => G) = G
  rw [hb]
theorem RdO.take {w : World} {ao : Option Addr} {os : List Ox} (h : RdO w ao os) (i : Nat) : RdO w ao (os.take i) := fun j o ho => by
  rw [List.getElem?_take] at ho
  split at ho
  · exact h j o ho
  · cases ho
/-- From here on what has been made since stays, too. -/
theorem HopsAt.mark {w wb wr w4 : World} {g i : Nat} {G : GV} (h : HopsAt w g G (fun _ => False) wb i wr) (hb : Below wr.heap.size wr w4) : HopsAt w g G (fun k => wr.heap.size ≤ k ∧ k < w4.heap.size) w4 i w4 := by
  obtain ⟨F, n, h1, h2, h3, h4, h5, h6, h7⟩ := h
  exact ⟨F, n, h1.below hb, h2, h3, fun k hk => ⟨(h4 k hk).1, fun hh => by have := gp_lt h1 k hk; omega⟩, h5.trans (hb.mono h5.size), fun k hk => hk.2, ⟨rfl, rfl, rfl, Nat.le_refl _, fun _ _ _ => rfl⟩⟩
def DoneR (w w' wb : World) (g i : Nat) (G : GV) (K : Nat → Prop) (r : Rq) (e : Ending) : Prop :=
  ∃ vo cv lo cl, e = .returned (.agg #[.int .i64 (ansG G r).E, .int .i64 (ansG G r).At, .slice vo (ansG G r).vals.length cv, .slice lo (ansG G r).list.length cl]) ∧ Below w.heap.size w w' ∧ (nextG G r = G → HopsAt w g G K wb (i + 1) w')
theorem HopsAt.tx {w wb wr : World} {g i : Nat} {G : GV} {K : Nat → Prop} (h : HopsAt w g G K wb i wr) (hok : OkG G) (he : Flt.ErrT w) (hi : i ≤ 100000) {r : Rq} {ao : Option Addr} {cap : Nat} (hO : RdO wr ao r.os) (hno : ao = Option.none → cap = 0) (hl : r.os.length * 48 ≤ 140737488355328) (hwf : ∀ o ∈ r.os, o.wf) (hv : In32 r.V) :
    Calls Tryz.prog 30 #[.pointer (some ⟨g, 0, Option.none⟩), r.val ao cap] wr fun e w' => DoneR w w' wb g i G K r e := by
  obtain ⟨F, n, h1, h2, h3, h4, h5, h6, h7⟩ := h
  refine (do_law g n F G r ao cap wr ⟨h1, h2, by omega, hok.sizes, hok.closed, fun i o hi => (by simp at hi), fun ad e => (by cases e), fun o ho => (by simp at ho), hv, Flt.ErrT.on he h5, fun hf => by have := (h4 _ hf).1; have := World.block_lt_of_cell? _ _ he; omega⟩ hO hwf hno hl).mono ?_
  rintro e w' ⟨vv, lv, rfl, ha⟩
  obtain ⟨av, cv, rfl⟩ := row_slice ha.vals
  obtain ⟨al, cl, rfl⟩ := row_slice ha.list
  obtain ⟨F', g1, g2, _, g4⟩ := ha.gr
  have hF' : ∀ j, F' j → w.heap.size ≤ j ∧ ¬ K j := fun j hj => by
    rcases g2 j hj with q | q
    · exact h4 j q
    · refine ⟨by have := h5.size; omega, fun hK => ?_⟩
      have := h6 j hK; have := h7.size; omega
  have hbw : Below w.heap.size w w' := h5.trans (ha.tur.below h5.size (fun j hj => (h4 j hj).1))
  have htt : Turned (fun j => ¬ K j) wb w' := h7.then (ha.tur.mono (fun j hj => (h4 j hj).2))
  exact ⟨av, cv, al, cl, rfl, hbw, fun hG => ⟨F', n + 24, by rw [hG] at g1; exact g1, by omega, by omega, hF', hbw, h6, htt⟩⟩
theorem HopsAt.turn {w wb wr w' : World} {g i : Nat} {G : GV} {K Z : Nat → Prop} (h : HopsAt w g G K wb i wr) (ht : Turned Z wr w') (hZ : ∀ k, Z k → w.heap.size ≤ k ∧ (K k ∨ wr.heap.size ≤ k)) : HopsAt w g G (fun _ => False) w' i w' := by
  obtain ⟨F, n, h1, h2, h3, h4, h5, h6, h7⟩ := h
  refine ⟨F, n, h1.turned ht (fun k hk hz => ?_), h2, h3, fun k hk => ⟨(h4 k hk).1, id⟩, h5.trans (ht.below h5.size (fun k hk => (hZ k hk).1)), fun k hk => hk.elim, ⟨rfl, rfl, rfl, Nat.le_refl _, fun _ _ _ => rfl⟩⟩
  rcases (hZ k hz).2 with q | q
  · exact (h4 k hk).2 q
  · have := gp_lt h1 k hk; omega
/-- Vertices that were read, in a row of the law's own. -/
structure Bef (B : Nat) (G : GV) (l : List Vr) (v : Value) (w : World) : Prop where
  row : w.ownsRow B 51 4 v l.length (vCells l)
  has : ∀ t ∈ l, VxR w B t (getE G t.id)
theorem Noted.bef {w wr : World} {G : GV} {l : List Vr} {v : Value} (h : Noted w G l v wr) : Bef w.heap.size G l v wr := ⟨h.row, h.has⟩
theorem Bef.held {B : Nat} {G : GV} {l : List Vr} {v : Value} {w w' : World} (h : Bef B G l v w) (hk : ∀ k, B ≤ k → k < w.heap.size → w'.heap[k]? = w.heap[k]?) : Bef B G l v w' := by
  have one : ∀ {e s n : Nat} {u : Value} {xs : List Value}, w.ownsRow B e s u n xs → w'.ownsRow B e s u n xs := fun hr => own_on hr (fun b hb => hk b (row_lt hr hb).1 (row_lt hr hb).2)
  refine ⟨one h.row, fun t ht => ?_⟩
  have := h.has t ht
  cases hx : getE G t.id with
  | none => rw [hx] at this; exact this
  | some x => rw [hx] at this; exact ⟨this.1, one this.2.1, one this.2.2⟩
theorem Bef.below {B : Nat} {G : GV} {l : List Vr} {v : Value} {w w' : World} (h : Bef B G l v w) (hb : Below w.heap.size w w') : Bef B G l v w' := h.held (fun k _ hk => hb.block k hk)
theorem vCells_len4 (l : List Vr) : (vCells l).length = l.length * 4 := by
  induction l with
  | nil => rfl
  | cons t l ih => rw [show vCells (t :: l) = [.int .u32 t.id, .bool t.th, t.pv, t.hv] ++ vCells l from rfl, List.length_append, ih]; simp; omega
theorem vCells_at4 {l : List Vr} {i : Nat} {t : Vr} (h : l[i]? = some t) : (vCells l)[i * 4]? = some (.int .u32 t.id) ∧ (vCells l)[i * 4 + 1]? = some (.bool t.th) ∧ (vCells l)[i * 4 + 2]? = some t.pv ∧ (vCells l)[i * 4 + 3]? = some t.hv := by
  induction l generalizing i with
  | nil => simp at h
  | cons b l ih =>
    have e : vCells (b :: l) = .int .u32 b.id :: .bool b.th :: b.pv :: b.hv :: vCells l := rfl
    rw [e]
    cases i with
    | zero => simp at h; subst h; exact ⟨rfl, rfl, rfl, rfl⟩
    | succ i =>
      simp at h
      obtain ⟨h0, h1, h2, h3⟩ := ih h
      rw [show (i + 1) * 4 = i * 4 + 4 by omega]
      exact ⟨h0, h1, h2, h3⟩
theorem Bef.at_ {B : Nat} {G : GV} {l : List Vr} {ao : Option Addr} {n cap : Nat} {w : World} (h : Bef B G l (.slice ao n cap) w) {i : Nat} {t : Vr} (ht : l[i]? = some t) : ∃ gb, ao = some ⟨gb, 0, none⟩ ∧ gb < w.heap.size ∧ w.cell? ⟨gb, i * 4, none⟩ = some (.int .u32 t.id) ∧ w.cell? ⟨gb, i * 4 + 1, none⟩ = some (.bool t.th) ∧ w.cell? ⟨gb, i * 4 + 2, none⟩ = some t.pv ∧ w.cell? ⟨gb, i * 4 + 3, none⟩ = some t.hv := by
  rcases h.row.2 with ⟨_, h1⟩ | ⟨gb, cap', cur, e, h1, h2, h3, h4⟩
  · rw [List.eq_nil_of_length_eq_zero h1] at ht; simp at ht
  · simp only [Value.slice.injEq] at e
    obtain ⟨rfl, _, _⟩ := e
    have cc := h.row.cells (g := gb) rfl
    obtain ⟨q0, q1, q2, q3⟩ := vCells_at4 ht
    have one : ∀ (k : Nat) (u : Value), (vCells l)[k]? = some u → w.cell? ⟨gb, k, none⟩ = some u := fun k u hu => by
      have := cc k u hu
      rwa [Go.WideShapes.add_plain, Nat.zero_add] at this
    exact ⟨gb, rfl, (Array.getElem?_eq_some_iff.1 h2).1, one _ _ q0, one _ _ q1, one _ _ q2, one _ _ q3⟩
end Go.Proofs.YtafenkepigmcaaaGreatDoor.Gr
