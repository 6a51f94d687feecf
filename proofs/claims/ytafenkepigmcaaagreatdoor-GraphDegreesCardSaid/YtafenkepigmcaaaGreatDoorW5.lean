/- graph: a transaction of one reading operation, walked; the degrees add up to twice the edges, by content. -/
import Derived.Test.YtafenkepigmcaaaGreatDoorW4
namespace Go.Proofs.YtafenkepigmcaaaGreatDoor.Gr
open Go Go.RowKit YtafenkepigmcaaaGreatDoor.So
def sumBy (f : Int → Nat) (l : List Int) : Nat := (l.map f).sum
theorem sumBy_cons (f : Int → Nat) (x : Int) (l : List Int) : sumBy f (x :: l) = f x + sumBy f l := by simp [sumBy]
theorem sumBy_add (f h : Int → Nat) (l : List Int) : sumBy (fun a => f a + h a) l = sumBy f l + sumBy h l := by
  induction l with
  | nil => rfl
  | cons x l ih => rw [sumBy_cons, sumBy_cons, sumBy_cons, ih]; omega
theorem sumBy_congr {f h : Int → Nat} {l : List Int} (e : ∀ a ∈ l, f a = h a) : sumBy f l = sumBy h l := by
  induction l with
  | nil => rfl
  | cons x l ih => rw [sumBy_cons, sumBy_cons, e x (by simp), ih (fun a ha => e a (by simp [ha]))]
theorem sumBy_count (p : Int → Bool) (l : List Int) : sumBy (fun a => if p a = true then 1 else 0) l = l.countP p := by
  induction l with
  | nil => rfl
  | cons x l ih =>
    rw [sumBy_cons, ih, List.countP_cons]
    omega
/-- Told from both sides, each pair counts twice. -/
theorem twice (J : Int → Int → Bool) (hs : ∀ a b, J a b = J b a) (hi : ∀ a, J a a = false) : ∀ l : List Int, l.Pairwise (· < ·) → sumBy (fun a => l.countP (J a)) l = 2 * sumBy (fun a => l.countP fun b => decide (a < b) && J a b) l
  | [], _ => rfl
  | x :: t, h => by
    obtain ⟨h1, h2⟩ := List.pairwise_cons.1 h
    have ih := twice J hs hi t h2
    have e1 : sumBy (fun a => (x :: t).countP (J a)) (x :: t) = t.countP (J x) + (sumBy (fun a => t.countP (J a)) t + t.countP (J x)) := by
      rw [sumBy_cons, List.countP_cons, hi x]
      have : sumBy (fun a => (x :: t).countP (J a)) t = sumBy (fun a => t.countP (J a) + (if J x a = true then 1 else 0)) t := sumBy_congr (fun a _ => by rw [List.countP_cons, hs a x])
      rw [this, sumBy_add, sumBy_count]
      simp
    have e2 : sumBy (fun a => (x :: t).countP fun b => decide (a < b) && J a b) (x :: t) = t.countP (J x) + sumBy (fun a => t.countP fun b => decide (a < b) && J a b) t := by
      rw [sumBy_cons, List.countP_cons]
      have h3 : (t.countP fun b => decide (x < b) && J x b) = t.countP (J x) := List.countP_congr (fun b hb => by simp [h1 b hb])
      have h4 : sumBy (fun a => (x :: t).countP fun b => decide (a < b) && J a b) t = sumBy (fun a => t.countP fun b => decide (a < b) && J a b) t := sumBy_congr (fun a ha => by
        rw [List.countP_cons]
        have := h1 a ha
        simp
        omega)
      rw [h3, h4]
      simp
    rw [e1, e2, ih]
    omega
/-- As many of a rising list are in another one as the shorter has. -/
theorem count_sub : ∀ {a b : List Int}, a.Pairwise (· < ·) → b.Pairwise (· < ·) → (∀ x ∈ a, x ∈ b) → (b.countP fun x => decide (x ∈ a)) = a.length := by
  intro a b ha hb h
  have e : (b.filter fun x => decide (x ∈ a)) = a := rise_eq (hb.filter _) ha (fun x => by
    rw [List.mem_filter]
    constructor
    · intro q; simpa using q.2
    · intro q; exact ⟨h x q, by simpa using q⟩)
  rw [List.countP_eq_length_filter, e]
theorem deg_count {G : GV} (h : OkG G) {v : Int} : ((keysE G).countP fun b => joinedG G v b) = (hG G v).length := by
  have e : (fun b => joinedG G v b) = fun b => decide (b ∈ keysE (hG G v)) := by
    funext b
    unfold joinedG
    cases hq : (getE (hG G v) b).isSome with
    | true => simpa using (mem_keysE (h.rh v) b).2 hq
    | false => simpa using fun q => by have := (mem_keysE (h.rh v) b).1 q; rw [hq] at this; cases this
  rw [e, count_sub (keysE_rise (h.rh v)) (keysE_rise h.rise) (fun x hx => (mem_keysE h.rise x).2 (h.closed v x hx)), keysE_len]
/-- The degrees add up to twice the edges. -/
theorem degrees {G : GV} (h : OkG G) : sumBy (fun a => (hG G a).length) (keysE G) = 2 * sumBy (fun a => (keysE G).countP fun b => decide (a < b) && joinedG G a b) (keysE G) := by
  rw [← twice (joinedG G) (fun a b => by unfold joinedG; rw [h.sym a b]) (fun a => by unfold joinedG; rw [h.self a]; rfl) _ (keysE_rise h.rise)]
  exact sumBy_congr (fun a _ => (deg_count h).symm)
/-- What one reading operation is answered. -/
def rdVals (G : GV) (o : Ox) : List Av := if refG G o = 0 then (readG G o).toList else []
theorem ans_read (G : GV) (o : Ox) (h : okO o = true) (hk : o.kd = 7 ∨ o.kd = 8) : ansG G ⟨1, [o], 0, 0, 0⟩ = ⟨refG G o, 0, rdVals G o, []⟩ ∧ nextG G ⟨1, [o], 0, 0, 0⟩ = G := by
  have hc : chkR ⟨1, [o], 0, 0, 0⟩ = 0 := by simp [chkR, chkTx, h]
  have hch : chgG G o = G := by
    unfold chgG
    rw [if_neg (by omega), if_neg (by omega)]
    cases getE G o.A with
    | none => rfl
    | some x => simp only; rw [if_neg (by omega), if_neg (by omega), if_neg (by omega)]
  have hb : badG G [o] = if refG G o = 0 then none else some (0, refG G o) := by
    simp only [badG]
    split <;> rfl
  constructor
  · unfold ansG rdVals
    rw [if_neg (by rw [hc]; simp), if_pos (show (1 : Int) = 1 from rfl)]
    simp only
    rw [hb]
    by_cases hr : refG G o = 0
    · rw [if_pos hr, if_pos hr, hr]; simp [valG]
    · rw [if_neg hr, if_neg hr]; rfl
  · unfold nextG
    rw [if_neg (by rw [hc]; simp), if_pos (show (1 : Int) = 1 from rfl)]
    simp only
    rw [hb]
    by_cases hr : refG G o = 0
    · rw [if_pos hr]; simpa [stG] using hch
    · rw [if_neg hr]
def RdPost (w wb wr : World) (g i : Nat) (G : GV) (K : Nat → Prop) (E : Int) (l : List Av) (e : Ending) (w' : World) : Prop :=
  ∃ av cv al cl, e = .returned (.agg #[.int .i64 E, .int .i64 0, .slice av l.length cv, .slice al 0 cl]) ∧ w'.ownsRow wr.heap.size 47 3 (.slice av l.length cv) l.length (aCells l) ∧ w'.ownsRow wr.heap.size 23 1 (.slice al 0 cl) 0 (KA.u32s []) ∧ HopsAt w g G K wb (i + 1) w' ∧ HopsAt w g G (fun k => (K k ∨ (Value.slice av l.length cv).ownBlock = some k) ∨ (Value.slice al 0 cl).ownBlock = some k) w' (i + 1) w'
theorem hops_read {w wb wr : World} {g i : Nat} {G : GV} {K : Nat → Prop} (h : HopsAt w g G K wb i wr) (hok : OkG G) (he : Flt.ErrT w) {o : Ox} (ho : okO o = true) (hw : o.wf) (hk : o.kd = 7 ∨ o.kd = 8) (hi : i ≤ 100000) :
    Calls Tryz.prog 18 #[.pointer (some ⟨g, 0, none⟩), .agg #[.int .u8 1, .slice (some ⟨wr.heap.size, 0, none⟩) 1 1, .int .u32 0, .int .i64 0, .int .i64 0]] (wr.alloc (.cells (opC o).toArray 75)) (RdPost w wb (wr.alloc (.cells (opC o).toArray 75)) g i G K (refG G o) (rdVals G o)) := by
  have hbl := (Below.refl _ wr).alloc (Nat.le_refl _) (.cells (opC o).toArray 75)
  have hl := heap_alloc_new wr (.cells (opC o).toArray 75)
  have hlt : ∀ F n, Gp wr n F g G → ∀ k, F k → k < wr.heap.size := fun F n q => gp_lt q
  obtain ⟨F, n, h1, h2, h3, h4, h5, h6, h7⟩ := h.below hbl
  obtain ⟨F0, n0, g1, g2, g3, g4, g5, g6, g7⟩ := h
  have hd : DoIn (wr.alloc (.cells (opC o).toArray 75)) F0 n0 g G ⟨1, [o], 0, 0, 0⟩ (some ⟨wr.heap.size, 0, none⟩) := ⟨g1.below hbl, g2, by omega, hok.sizes, hok.closed, rd_lit hl (by simp [oCells]), fun ad e hf => by cases e; have := hlt _ _ g1 _ hf; simp at this, fun x hx => by simp at hx; rw [hx]; exact hw, rfl, Flt.ErrT.on he (g5.trans (hbl.mono g5.size)), fun hf => by have := (g4 _ hf).1; have := World.block_lt_of_cell? _ _ he; omega⟩
  obtain ⟨ea, en⟩ := ans_read G o ho hk
  refine (do_any g n0 F0 G ⟨1, [o], 0, 0, 0⟩ (some ⟨wr.heap.size, 0, none⟩) 1 _ hd).mono ?_
  rintro e w' ⟨vv, lv, rfl, ha⟩
  rw [ea, en] at ha
  rw [ea]
  obtain ⟨av, cv, rfl⟩ := row_slice ha.vals
  obtain ⟨al, cl, rfl⟩ := row_slice ha.list
  obtain ⟨F', q1, q2, q3, q4⟩ := ha.gr
  have hs5 := g5.trans (hbl.mono g5.size)
  have hs7 := g7.then (turned_low hbl)
  have hF' : ∀ j, F' j → w.heap.size ≤ j ∧ ¬ K j := fun j hj => by
    rcases q2 j hj with q | q
    · exact g4 j q
    · refine ⟨by have := hs5.size; omega, fun hK => ?_⟩
      have := g6 j hK; have := hs7.size; omega
  have hbw : Below w.heap.size w w' := hs5.trans (ha.tur.below hs5.size (fun j hj => (g4 j hj).1))
  have htt : Turned (fun j => ¬ K j) wb w' := hs7.then (ha.tur.mono (fun j hj => (g4 j hj).2))
  refine ⟨av, cv, al, cl, rfl, ha.vals, ha.list, ⟨F', n0 + 24, q1, by omega, by omega, hF', hbw, g6, htt⟩, ⟨F', n0 + 24, q1, by omega, by omega, fun j hj => ⟨(hF' j hj).1, ?_⟩, hbw, fun j hj => ?_, ⟨rfl, rfl, rfl, Nat.le_refl _, fun _ _ _ => rfl⟩⟩⟩
  · rintro ((q | q) | q)
    · exact (hF' j hj).2 q
    · exact q3 j q hj
    · exact q4 j q hj
  · rcases hj with (q | q) | q
    · exact Nat.lt_of_lt_of_le (g6 j q) htt.size
    · exact (row_lt ha.vals q).2
    · exact (row_lt ha.list q).2
end Go.Proofs.YtafenkepigmcaaaGreatDoor.Gr
