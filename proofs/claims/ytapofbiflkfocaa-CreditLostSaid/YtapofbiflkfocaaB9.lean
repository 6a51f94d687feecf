/- credit: what is on its way, with what was lost; the pool and the queue by what they hold. -/
import Derived.Test.YtapofbiflkfocaaB8
namespace Go.Proofs.Ytapofbiflkfocaa.Cr
open Go Go.RowKit
def tot (L : List Ms) : Int := (L.map fun x => x.2.1).sum
theorem tot_app (A B : List Ms) : tot (A ++ B) = tot A + tot B := by simp [tot]
/-- What is on its way; t: the credit of what was lost. -/
structure LInv (L : List Ms) (nx : Nat) (D : Int → Bool) (o t : Int) : Prop where
  mem : ∀ x ∈ L, 0 ≤ x.1 ∧ x.1 < nx ∧ D x.1 = false ∧ 1 ≤ x.2.1 ∧ 0 ≤ x.2.2 ∧ x.2.2 ≤ 8
  nodup : (L.map Prod.fst).Nodup
  sum : o = t + tot L
  fresh : ∀ k : Int, nx ≤ k → D k = false
  t0 : 0 ≤ t
theorem tot_nonneg {L : List Ms} (h : ∀ x ∈ L, 1 ≤ x.2.1) : 0 ≤ tot L := by
  induction L with
  | nil => simp [tot]
  | cons a L ih =>
    have h1 := h a (by simp)
    have h2 := ih (fun x hx => h x (by simp [hx]))
    rw [show a :: L = [a] ++ L from rfl, tot_app]
    have : tot [a] = a.2.1 := by simp [tot]
    omega
section
variable {L : List Ms} {nx : Nat} {D : Int → Bool} {o t : Int} {x : Ms}
theorem LInv.start : LInv [(0, 1152921504606846976, 0)] 1 (fun _ => false) 1152921504606846976 0 :=
  ⟨fun x hx => by rw [List.mem_singleton.1 hx]; decide, by decide, by decide, fun _ _ => rfl, by decide⟩
theorem LInv.tot_cons (L : List Ms) (x : Ms) : tot (x :: L) = x.2.1 + tot L := by simp [tot]
/-- It is lost. -/
theorem LInv.lose (h : LInv (x :: L) nx D o t) : LInv L nx D o (t + x.2.1) := by
  have hx := h.mem x (by simp)
  have hs := h.sum
  rw [LInv.tot_cons] at hs
  exact ⟨fun y hy => h.mem y (by simp [hy]), (List.nodup_cons.1 h.nodup).2, by omega, h.fresh, by have := h.t0; omega⟩
/-- It is worked on. -/
theorem LInv.work (h : LInv (x :: L) nx D o t) : LInv L nx (mark D x.1) (o - x.2.1) t := by
  have hx := h.mem x (by simp)
  have hs := h.sum
  rw [LInv.tot_cons] at hs
  have hn : x.1 ∉ L.map Prod.fst := by
    have := h.nodup
    rw [List.map_cons, List.nodup_cons] at this
    exact this.1
  refine ⟨fun y hy => ?_, (List.nodup_cons.1 h.nodup).2, by omega, fun j hj => ?_, h.t0⟩
  · obtain ⟨a, b, c, d⟩ := h.mem y (by simp [hy])
    have hne : y.1 ≠ x.1 := fun e => hn (List.mem_map.2 ⟨y, hy, e⟩)
    exact ⟨a, b, by simp [mark, hne, c], d⟩
  · have : j ≠ x.1 := by omega
    simp [mark, this, h.fresh j hj]
theorem LInv.cause (h : LInv L nx D o t) {s d : Int} (hs : 1 ≤ s) (d0 : 0 ≤ d) (d8 : d ≤ 8) : LInv (L ++ [((nx : Int), s, d)]) (nx + 1) D (o + s) t := by
  refine ⟨fun y hy => ?_, ?_, ?_, fun j hj => h.fresh j (by omega), h.t0⟩
  · rcases List.mem_append.1 hy with hy | hy
    · obtain ⟨a, b, c⟩ := h.mem y hy
      exact ⟨a, by omega, c⟩
    · rw [List.mem_singleton.1 hy]
      exact ⟨by simp, by simp; omega, h.fresh nx (by omega), hs, d0, d8⟩
  · rw [List.map_append, List.nodup_append]
    refine ⟨h.nodup, by simp, fun a ha b hb e => ?_⟩
    obtain ⟨y, hy, rfl⟩ := List.mem_map.1 ha
    simp at hb
    have := (h.mem y hy).2.1
    omega
  · rw [tot_app, h.sum]
    have : tot [((nx : Int), s, d)] = s := by simp [tot]
    omega
theorem LInv.le (h : LInv (x :: L) nx D o t) : 1 ≤ x.2.1 ∧ x.2.1 ≤ o := by
  have hx := h.mem x (by simp)
  have hs := h.sum
  rw [LInv.tot_cons] at hs
  have := tot_nonneg (L := L) (fun y hy => (h.mem y (by simp [hy])).2.2.2.1)
  have := h.t0
  omega
/-- Nothing is out just if nothing is on its way, and nothing was lost. -/
theorem LInv.zero (h : LInv L nx D o t) : (o == 0) = ((t == 0) && (L.length == 0)) := by
  have hs := h.sum
  have h0 := h.t0
  cases L with
  | nil =>
    have : tot ([] : List Ms) = 0 := rfl
    rw [hs, this]
    simp
  | cons a L =>
    have h1 := h.le
    have h2 : (o == 0) = false := by simp; omega
    rw [h2]
    simp
end
def set0 (D : Int → Bool) : TK → Bool := fun k => k.1 == 0 && D k.2
theorem set0_mark (D : Int → Bool) (k : Int) : set0 (mark D k) = add (set0 D) (0, k) := by
  funext j
  unfold set0 mark add
  by_cases h : j = (0, k)
  · subst h; simp
  · by_cases h1 : j.1 = 0
    · have h2 : j.2 ≠ k := fun e => h (Prod.ext h1 e)
      simp [h, h1, h2]
    · have h3 : (j.1 == 0) = false := by simpa using h1
      simp [h, h3]
theorem set0_none : set0 (fun _ => false) = fun _ => false := by
  funext k
  simp [set0]
/-- The pool and the queue. -/
structure LosM (w0 : World) (p a q : Nat) (L : List Ms) (v : Value) (D : Int → Bool) (o : Int) (w : World) : Prop where
  pool : ∃ n, n ≤ q ∧ Pool w p a n o (set0 D)
  bag : QRow w w0.heap.size v L
  low : Below w0.heap.size w0 w
  p0 : w0.heap.size ≤ p
  a0 : w0.heap.size ≤ a
section
variable {w0 w w' : World} {p a q z : Nat} {L L' : List Ms} {v v' : Value} {D : Int → Bool} {o : Int} {x : Ms}
theorem LosM.off (h : LosM w0 p a q L v D o w) {g : Nat} {c : Array Value} (hg : w.heap[g]? = some (.cells c 34 (0, 0))) : g ≠ p ∧ g ≠ a := by
  obtain ⟨n, _, hp⟩ := h.pool
  obtain ⟨_, _, h2⟩ := map_block hp.came
  refine ⟨fun e => ?_, fun e => ?_⟩
  · have h1 := hp.cell
    rw [e, h1] at hg; injection hg with hg; injection hg with _ h5 _; exact absurd h5 (by decide)
  · rw [e, h2] at hg; cases hg
theorem LosM.below (h : LosM w0 p a q L v D o w) (hb : Below w.heap.size w w') : LosM w0 p a q L v D o w' := by
  obtain ⟨n, hn, hp⟩ := h.pool
  exact ⟨⟨n, hn, hp.below hb⟩, h.bag.below hb, h.low.trans (hb.mono h.low.size), h.p0, h.a0⟩
theorem LosM.more (h : LosM w0 p a q L v D o w) {q' : Nat} (hq : q ≤ q') : LosM w0 p a q' L v D o w := by
  obtain ⟨n, hn, hp⟩ := h.pool
  exact ⟨⟨n, by omega, hp⟩, h.bag, h.low, h.p0, h.a0⟩
theorem LosM.cut (h : LosM w0 p a q L v D o w) (hb : QRow w w0.heap.size v' L') : LosM w0 p a q L' v' D o w := ⟨h.pool, hb, h.low, h.p0, h.a0⟩
theorem LosM.doneQ (h : LosM w0 p a q L v D o w) : Calls Try.prog 12 #[.pointer (some ⟨p, 0, none⟩)] w fun e w' => e = .returned (.bool (o == 0)) ∧ w = w' := by
  obtain ⟨n, _, hp⟩ := h.pool
  exact done_any hp
set_option maxRecDepth 100000 in
theorem LosM.first (h : LosM w0 p a q L v D o w) {k : Int} (k0 : 0 ≤ k) (k1 : k ≤ 18446744073709551615) (hk : D k = false) {c : Int} (c0 : 0 ≤ c) (c1 : c ≤ o) (hq : q < 1000000) :
    Calls Try.prog 11 #[.pointer (some ⟨p, 0, none⟩), .int .u8 0, .int .u64 k, .int .u64 c] w fun e w' => e = .returned (.tuple #[.bool true, .int .i64 0]) ∧ LosM w0 p a (q + 1) L v (mark D k) (o - c) w' ∧ w.heap.size ≤ w'.heap.size := by
  obtain ⟨n, hn, hp⟩ := h.pool
  have hmax : n < maxLen := Nat.lt_of_le_of_lt hn (Nat.lt_trans hq (by decide))
  refine (back_first hp (k := ((0 : Int), k)) ⟨⟨by simp, by simp⟩, k0, k1⟩ (by simp [set0, hk]) c0 c1 hmax).mono ?_
  rintro e w' ⟨rfl, hp', ht⟩
  refine ⟨rfl, ⟨⟨n + 1, by omega, by rw [set0_mark]; exact hp'⟩, h.bag.on ht (fun g c hg => ?_), h.low.trans (ht.below h.low.size fun k hk => by rcases hk with rfl | rfl; exact h.p0; exact h.a0), h.p0, h.a0⟩, ht.size⟩
  obtain ⟨x1, x2⟩ := h.off hg
  exact fun e => by rcases e with e | e; exact x1 e; exact x2 e
/-- One more in the queue. -/
theorem LosM.grow (h : LosM w0 p a q L v D o w) (hg : w.grownBy w' v.ownBlock) (hb : QRow w' w0.heap.size v' L') (hv : ∀ k, v.ownBlock = some k → w0.heap.size ≤ k ∧ k ≠ p ∧ k ≠ a) : LosM w0 p a q L' v' D o w' := by
  obtain ⟨n, hn, hp⟩ := h.pool
  have ht : Turned (fun k => v.ownBlock = some k) w w' := .of_grown hg fun k e => e
  exact ⟨⟨n, hn, hp.on ht (fun e => (hv p e).2.1 rfl) (fun e => (hv a e).2.2 rfl)⟩, hb, h.low.trans (ht.below h.low.size fun k e => (hv k e).1), h.p0, h.a0⟩
end
/-- The message's own box, beside a queue. -/
structure By (w0 : World) (z p a : Nat) (x : Ms) (v : Value) (w : World) : Prop where
  box : w.heap[z]? = some (.cells #[.int .u64 x.1, .int .u64 x.2.1, .int .i64 x.2.2] 34 (0, 0))
  own : ∀ k, v.ownBlock = some k → w0.heap.size ≤ k ∧ k ≠ p ∧ k ≠ a ∧ k ≠ z ∧ k < w.heap.size
  hi : p < w.heap.size ∧ a < w.heap.size
section
variable {w0 w w' : World} {z p a : Nat} {x : Ms} {v v' : Value}
theorem By.below (h : By w0 z p a x v w) (hb : Below w.heap.size w w') : By w0 z p a x v w' := ⟨(hb.block z (Array.getElem?_eq_some_iff.1 h.box).1).trans h.box, fun k e => by obtain ⟨a, b, c, d, e⟩ := h.own k e; exact ⟨a, b, c, d, Nat.lt_of_lt_of_le e hb.size⟩, Nat.lt_of_lt_of_le h.hi.1 hb.size, Nat.lt_of_lt_of_le h.hi.2 hb.size⟩
theorem By.grow (h : By w0 z p a x v w) (hlow : w0.heap.size ≤ w.heap.size) (hg : w.grownBy w' v.ownBlock) (hv : v'.ownBlock = v.ownBlock ∨ ∃ k, v'.ownBlock = some k ∧ w.heap.size ≤ k ∧ k < w'.heap.size) : By w0 z p a x v' w' := by
  have hz := (Array.getElem?_eq_some_iff.1 h.box).1
  refine ⟨(hg.block z hz (fun e => (h.own z e.symm).2.2.2.1 rfl)).trans h.box, fun k e => ?_, Nat.lt_of_lt_of_le h.hi.1 hg.size, Nat.lt_of_lt_of_le h.hi.2 hg.size⟩
  rcases hv with hv | ⟨k', e2, hk', hk2⟩
  · obtain ⟨a, b, c, d, f⟩ := h.own k (by rw [← hv]; exact e)
    exact ⟨a, b, c, d, Nat.lt_of_lt_of_le f hg.size⟩
  · have : k = k' := Option.some.inj (e.symm.trans e2)
    have h1 := h.hi
    exact ⟨by omega, by omega, by omega, by omega, by omega⟩
theorem By.cells (h : By w0 z p a x v w) : w.cell? ⟨z, 0, none⟩ = some (.int .u64 x.1) ∧ w.cell? ⟨z, 1, none⟩ = some (.int .u64 x.2.1) ∧ w.cell? ⟨z, 2, none⟩ = some (.int .i64 x.2.2) := by
  have := h.box
  simp [World.cell?, this]
end
end Go.Proofs.Ytapofbiflkfocaa.Cr
