/- credit: the pool, the bag, and which messages have been worked on, by what they hold. -/
import Derived.Test.YtapofbiflkfocaaB5
namespace Go.Proofs.Ytapofbiflkfocaa.Cr
open Go Go.RowKit
def setC (D : Int → Bool) : TK → Bool := fun k => k.1 == 1 && D k.2
theorem setC_mark (D : Int → Bool) (k : Int) : setC (mark D k) = add (setC D) (1, k) := by
  funext j
  unfold setC mark add
  by_cases h : j = (1, k)
  · subst h; simp
  · by_cases h1 : j.1 = 1
    · have h2 : j.2 ≠ k := fun e => h (Prod.ext h1 e)
      simp [h, h1, h2]
    · have h3 : (j.1 == 1) = false := by simpa using h1
      simp [h, h3]
theorem inK1 : ((0 : Int) ≤ 1 ∧ (1 : Int) ≤ 255) ∧ True := ⟨by decide, trivial⟩
def setN (D : Int → Bool) : Int → Option Value := fun k => if D k then some (.bool true) else none
theorem setN_mark (D : Int → Bool) (k : Int) : setN (mark D k) = updN (setN D) k (some (.bool true)) := by
  funext j
  unfold setN mark updN
  by_cases h : j = k <;> simp [h]
theorem row_block {w : World} {B T e n : Nat} {v : Value} {xs : List Value} (h : w.ownsRow B T e v n xs) {g : Nat} (hg : v.ownBlock = some g) : ∃ cur, w.heap[g]? = some (.cells cur T (0, 0)) := by
  rcases h.2 with ⟨rfl, _⟩ | ⟨g', cap, cur, rfl, _, h2, _⟩
  · cases hg
  · cases hg; exact ⟨cur, h2⟩
theorem mapN_block {zd : Value} {w : World} {b n : Nat} {V : Int → Option Value} (h : MapN zd w b n V) : ∃ es clock, w.heap[b]? = some (.map es clock) := by
  obtain ⟨D, ⟨es, clock, h1, _⟩, _⟩ := h
  exact ⟨es, clock, h1⟩
/-- The pool, which have been worked on, the bag. -/
structure EndM (w0 : World) (p a b q : Nat) (L : List Ms) (v : Value) (D Dp : Int → Bool) (o : Int) (w : World) : Prop where
  pool : ∃ n, n ≤ q ∧ Pool w p a n o (setC Dp)
  done : ∃ n, n ≤ q ∧ MapN (.bool false) w b n (setN D)
  bag : w.ownsRow w0.heap.size 34 3 v L.length (ms L)
  ab : a ≠ b
  low : Below w0.heap.size w0 w
  p0 : w0.heap.size ≤ p
  a0 : w0.heap.size ≤ a
  b0 : w0.heap.size ≤ b
/-- The message's own box. -/
structure Bx (w0 : World) (z : Nat) (x : Ms) (v : Value) (w : World) : Prop where
  box : w.heap[z]? = some (.cells #[.int .u64 x.1, .int .u64 x.2.1, .int .i64 x.2.2] 34 (0, 0))
  ne : v.ownBlock ≠ some z
  z0 : w0.heap.size ≤ z
section
variable {w0 w w' : World} {p a b q z : Nat} {L L' : List Ms} {v v' : Value} {D Dp : Int → Bool} {o : Int} {x : Ms}
theorem EndM.pa (h : EndM w0 p a b q L v D Dp o w) : (∃ c, w.heap[p]? = some (.cells c 45 (0, 0))) ∧ (∃ es cl, w.heap[a]? = some (.map es cl)) ∧ ∃ es cl, w.heap[b]? = some (.map es cl) := by
  obtain ⟨n, _, hp⟩ := h.pool
  obtain ⟨m, _, hm⟩ := h.done
  exact ⟨⟨_, hp.cell⟩, map_block hp.came, mapN_block hm⟩
theorem EndM.off (h : EndM w0 p a b q L v D Dp o w) {g c} (hg : w.heap[g]? = some (.cells c 34 (0, 0))) : g ≠ p ∧ g ≠ a ∧ g ≠ b := by
  obtain ⟨⟨c1, h1⟩, ⟨e2, l2, h2⟩, e3, l3, h3⟩ := h.pa
  refine ⟨fun e => ?_, fun e => ?_, fun e => ?_⟩
  · rw [e, h1] at hg; injection hg with hg; injection hg with _ h5 _; exact absurd h5 (by decide)
  · rw [e, h2] at hg; cases hg
  · rw [e, h3] at hg; cases hg
theorem EndM.on {Z : Nat → Prop} (h : EndM w0 p a b q L v D Dp o w) (ht : Turned Z w w') (hp : ¬ Z p) (ha : ¬ Z a) (hb : ¬ Z b) (hZ : ∀ k, Z k → w0.heap.size ≤ k)
    (hown : w'.ownsRow w0.heap.size 34 3 v' L'.length (ms L')) : EndM w0 p a b q L' v' D Dp o w' := by
  obtain ⟨n, hn, h1⟩ := h.pool
  obtain ⟨m, hm, h2⟩ := h.done
  exact ⟨⟨n, hn, h1.on ht hp ha⟩, ⟨m, hm, h2.on ht hb⟩, hown, h.ab, h.low.trans (ht.below h.low.size hZ), h.p0, h.a0, h.b0⟩
theorem EndM.below (h : EndM w0 p a b q L v D Dp o w) (hb : Below w.heap.size w w') : EndM w0 p a b q L v D Dp o w' :=
  h.on (Z := fun _ => False) (below_any hb) id id id (fun _ => False.elim) (own_on h.bag fun g e => hb.block g (World.ownsRow.lt h.bag g e).2)
theorem Bx.below (h : Bx w0 z x v w) (hb : Below w.heap.size w w') : Bx w0 z x v w' := ⟨(hb.block z (Array.getElem?_eq_some_iff.1 h.box).1).trans h.box, h.ne, h.z0⟩
theorem Bx.on {Z : Nat → Prop} (h : Bx w0 z x v w) (ht : Turned Z w w') (hz : ¬ Z z) : Bx w0 z x v w' := ⟨(ht.block z (Array.getElem?_eq_some_iff.1 h.box).1 hz).trans h.box, h.ne, h.z0⟩
/-- The bag has turned, or another one is made. -/
theorem EndM.grow (h : EndM w0 p a b q L v D Dp o w) (hg : w.grownBy w' v.ownBlock) (hown : w'.ownsRow w0.heap.size 34 3 v' L'.length (ms L')) : EndM w0 p a b q L' v' D Dp o w' := by
  have hz : ∀ k, v.ownBlock = some k → w0.heap.size ≤ k ∧ k ≠ p ∧ k ≠ a ∧ k ≠ b := fun k e => by
    obtain ⟨c, hc⟩ := row_block h.bag e
    exact ⟨(World.ownsRow.lt h.bag k e).1, h.off hc⟩
  exact h.on (Z := fun k => v.ownBlock = some k) (.of_grown hg fun k e => e) (fun e => (hz p e).2.1 rfl) (fun e => (hz a e).2.2.1 rfl) (fun e => (hz b e).2.2.2 rfl) (fun k e => (hz k e).1) hown
theorem Bx.grow (h : Bx w0 z x v w) (hg : w.grownBy w' v.ownBlock) (hne : v'.ownBlock ≠ some z) : Bx w0 z x v' w' :=
  ⟨(hg.block z (Array.getElem?_eq_some_iff.1 h.box).1 (fun e => h.ne e.symm)).trans h.box, hne, h.z0⟩
theorem EndM.more (h : EndM w0 p a b q L v D Dp o w) {q' : Nat} (hq : q ≤ q') : EndM w0 p a b q' L v D Dp o w := by
  obtain ⟨n, hn, h1⟩ := h.pool
  obtain ⟨m, hm, h2⟩ := h.done
  exact ⟨⟨n, by omega, h1⟩, ⟨m, by omega, h2⟩, h.bag, h.ab, h.low, h.p0, h.a0, h.b0⟩
theorem EndM.doneQ (h : EndM w0 p a b q L v D Dp o w) : Calls Try.prog 12 #[.pointer (some ⟨p, 0, none⟩)] w fun e w' => e = .returned (.bool (o == 0)) ∧ w = w' := by
  obtain ⟨n, _, hp⟩ := h.pool
  exact done_any hp
set_option maxRecDepth 100000 in
theorem EndM.again (h : EndM w0 p a b q L v D Dp o w) {k : Int} (k0 : 0 ≤ k) (k1 : k ≤ 18446744073709551615) (hk : Dp k = true) (c : Int) :
    Calls Try.prog 11 #[.pointer (some ⟨p, 0, none⟩), .int .u8 1, .int .u64 k, .int .u64 c] w fun e w' => e = .returned (.tuple #[.bool false, .int .i64 0]) ∧ EndM w0 p a b q L v D Dp o w' ∧ Below w.heap.size w w' := by
  obtain ⟨n, _, hp⟩ := h.pool
  refine (back_again hp (k := ((1 : Int), k)) ⟨inK1.1, k0, k1⟩ (by simp [setC, hk]) c).mono ?_
  rintro e w' ⟨rfl, hb⟩
  exact ⟨rfl, h.below hb, hb⟩
set_option maxRecDepth 100000 in
theorem EndM.first (h : EndM w0 p a b q L v D Dp o w) (hx : Bx w0 z x v w) {k : Int} (k0 : 0 ≤ k) (k1 : k ≤ 18446744073709551615) (hk : Dp k = false) {c : Int} (c0 : 0 ≤ c) (c1 : c ≤ o) (hq : q < 1000000) :
    Calls Try.prog 11 #[.pointer (some ⟨p, 0, none⟩), .int .u8 1, .int .u64 k, .int .u64 c] w fun e w' => e = .returned (.tuple #[.bool true, .int .i64 0]) ∧ EndM w0 p a b (q + 1) L v D (mark Dp k) (o - c) w' ∧ Bx w0 z x v w' := by
  obtain ⟨n, hn, hp⟩ := h.pool
  obtain ⟨m, hm, hd⟩ := h.done
  have hmax : n < maxLen := Nat.lt_of_le_of_lt hn (Nat.lt_trans hq (by decide))
  refine (back_first hp (k := ((1 : Int), k)) ⟨inK1.1, k0, k1⟩ (by simp [setC, hk]) c0 c1 hmax).mono ?_
  rintro e w' ⟨rfl, hp', ht⟩
  obtain ⟨x1, x2, x3⟩ := h.off hx.box
  have hbb : ¬ PZ p a b := fun e => by
    rcases e with e | e
    · obtain ⟨⟨c1, h1⟩, _, e3, l3, h3⟩ := h.pa
      rw [e, h1] at h3; cases h3
    · exact h.ab e.symm
  refine ⟨rfl, ⟨⟨n + 1, by omega, by rw [setC_mark]; exact hp'⟩, ⟨m, by omega, hd.on ht hbb⟩, own_on h.bag fun g e => ?_, h.ab, h.low.trans (ht.below h.low.size fun k hk => by rcases hk with rfl | rfl; exact h.p0; exact h.a0), h.p0, h.a0, h.b0⟩, hx.on ht (fun e => by rcases e with e | e; exact x1 e; exact x2 e)⟩
  obtain ⟨cc, hc⟩ := row_block h.bag e
  obtain ⟨y1, y2, y3⟩ := h.off hc
  exact ht.block g (World.ownsRow.lt h.bag g e).2 (fun e => by rcases e with e | e; exact y1 e; exact y2 e)
theorem EndM.look (h : EndM w0 p a b q L v D Dp o w) {k : Int} (k0 : 0 ≤ k) (k1 : k ≤ 18446744073709551615) : (Instr.lookup 36 (.map (some b)) (.int .u64 k) false).run Try.prog w = .ok (.bool (D k)) w := by
  obtain ⟨n, _, hm⟩ := h.done
  have h1 := hm.look Try.underlying36 (zero4 w) (in64 k0 k1)
  rw [h1]
  unfold setN
  cases D k <;> rfl
theorem EndM.upd (h : EndM w0 p a b q L v D Dp o w) (hx : Bx w0 z x v w) {k : Int} (k0 : 0 ≤ k) (k1 : k ≤ 18446744073709551615) (hq : q < 1000000) :
    ∃ w', (Instr.mapUpdate 36 (.map (some b)) (.int .u64 k) (.bool true)).run Try.prog w = .ok () w' ∧ EndM w0 p a b (q + 1) L v (mark D k) Dp o w' ∧ Bx w0 z x v w' := by
  obtain ⟨n, hn, hp⟩ := h.pool
  obtain ⟨m, hm, Dm, h1, h2⟩ := h.done
  have hmax : m < maxLen := Nat.lt_of_le_of_lt hm (Nat.lt_trans hq (by decide))
  obtain ⟨w', hrun, hown, hg⟩ := h1.update (key := .int .u64 k) (val := .bool true) law22 Try.underlying36 hmax (key22 (in64 k0 k1)) (d := .held (.bool true)) (ps := []) rfl
  have ht : Turned (fun i => i = b) w w' := .of_grown hg (fun i e => (Option.some.inj e).symm)
  obtain ⟨x1, x2, x3⟩ := h.off hx.box
  have hpb : p ≠ b := fun e => by
    obtain ⟨⟨c1, h1⟩, _, e3, l3, h3⟩ := h.pa
    rw [← e, h1] at h3; cases h3
  refine ⟨w', hrun, ⟨⟨n, by omega, hp.on ht hpb h.ab⟩, ⟨m + 1, by omega, by rw [setN_mark]; exact MapN.stored h1 h2 hown⟩, own_on h.bag fun g e => ?_, h.ab, h.low.trans (ht.below h.low.size fun k hk => by rw [hk]; exact h.b0), h.p0, h.a0, h.b0⟩, hx.on ht x3⟩
  obtain ⟨cc, hc⟩ := row_block h.bag e
  exact ht.block g (World.ownsRow.lt h.bag g e).2 (h.off hc).2.2
/-- A message in the bag, where it lies. -/
theorem EndM.at_ (h : EndM w0 p a b q L v D Dp o w) {k : Nat} {y : Ms} (hy : L[k]? = some y) : ∃ g cap, v = .slice (some ⟨g, 0, none⟩) L.length cap ∧ L.length ≤ cap ∧ g < w.heap.size ∧ w0.heap.size ≤ g ∧
    w.cell? ⟨g, k * 3, none⟩ = some (.int .u64 y.1) ∧ w.cell? ⟨g, k * 3 + 1, none⟩ = some (.int .u64 y.2.1) ∧ w.cell? ⟨g, k * 3 + 2, none⟩ = some (.int .i64 y.2.2) := by
  rcases h.bag.2 with ⟨h0, h1⟩ | ⟨g, cap, cur, h0, h1, h2, h3, h4⟩
  · rw [List.eq_nil_of_length_eq_zero h1] at hy; simp at hy
  · subst h0
    have hc : ∀ j u, j < 3 → (mc y)[j]? = some u → w.cell? ⟨g, k * 3 + j, none⟩ = some u := fun j u hj hu => by
      have := h.bag.cells (g := g) rfl (k * 3 + j) u (by rw [ms_at hy j hj]; exact hu)
      rwa [Go.WideShapes.add_plain, Nat.zero_add] at this
    exact ⟨g, cap, rfl, h3, (Array.getElem?_eq_some_iff.1 h2).1, h1, hc 0 _ (by decide) rfl, hc 1 _ (by decide) rfl, hc 2 _ (by decide) rfl⟩
theorem Bx.cells (h : Bx w0 z x v w) : w.cell? ⟨z, 0, none⟩ = some (.int .u64 x.1) ∧ w.cell? ⟨z, 1, none⟩ = some (.int .u64 x.2.1) ∧ w.cell? ⟨z, 2, none⟩ = some (.int .i64 x.2.2) := by
  have := h.box
  simp [World.cell?, this]
end
end Go.Proofs.Ytapofbiflkfocaa.Cr
