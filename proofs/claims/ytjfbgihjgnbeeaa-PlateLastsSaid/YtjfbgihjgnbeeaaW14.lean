/- plate: a plate beside blocks that it does not hold. -/
import Derived.Test.YtjfbgihjgnbeeaaW13
import Derived.Test.YtjfbgihjgnbeeaaW10
namespace Go.Proofs.Ytjfbgihjgnbeeaa.Pl
open Go Go.RowKit
/-- What stands in the blocks of G is as it was. -/
def Same (G : Nat → Prop) (W W' : World) : Prop := ∀ k, G k → W'.heap[k]? = W.heap[k]?
theorem Same.trans {G : Nat → Prop} {a b c : World} (h : Same G a b) (k : Same G b c) : Same G a c := fun i hi => (k i hi).trans (h i hi)
theorem Same.of_below {G : Nat → Prop} {W W' : World} (h : Below W.heap.size W W') (hG : ∀ k, G k → k < W.heap.size) : Same G W W' := fun k hk => h.block k (hG k hk)
theorem Same.mono {G H : Nat → Prop} {W W' : World} (h : Same G W W') (hH : ∀ k, H k → G k) : Same H W W' := fun k hk => h k (hH k hk)
/-- A plate, none of G's blocks its own. -/
def Pt (B b bm m : Nat) (G : Nat → Prop) (s : PSt) (W : World) : Prop :=
  ∃ (v : Value) (F : Nat → Prop) (n : Nat), PlateAt W B F b n bm v s ∧ n ≤ m ∧ (∀ k, F k → ¬ G k) ∧ ∀ k, G k → k < W.heap.size
theorem Pt.below {B b bm m : Nat} {G : Nat → Prop} {s : PSt} {W W' : World} (h : Pt B b bm m G s W) (hb : Below W.heap.size W W') : Pt B b bm m G s W' := by
  obtain ⟨v, F, n, h1, h2, h3, h4⟩ := h
  exact ⟨v, F, n, h1.below hb, h2, h3, fun k hk => Nat.lt_of_lt_of_le (h4 k hk) hb.size⟩
theorem Pt.new {B b bm m : Nat} {G : Nat → Prop} {s : PSt} {W W' : World} (h : Pt B b bm m G s W) (hb : Below W.heap.size W W') : Pt B b bm m (fun k => G k ∨ (W.heap.size ≤ k ∧ k < W'.heap.size)) s W' := by
  obtain ⟨v, F, n, h1, h2, h3, h4⟩ := h
  refine ⟨v, F, n, h1.below hb, h2, fun k hk => ?_, fun k hk => ?_⟩
  · rintro (hG | hG)
    · exact h3 k hk hG
    · have := h1.hi k hk; omega
  · rcases hk with hG | hG
    · exact Nat.lt_of_lt_of_le (h4 k hG) hb.size
    · exact hG.2
theorem Pt.base {B b bm m : Nat} {G : Nat → Prop} {s : PSt} {W : World} (h : Pt B b bm m G s W) : B ≤ W.heap.size := by
  obtain ⟨v, F, n, h1, _⟩ := h; exact h1.base
theorem Pt.fits {B b bm m : Nat} {G : Nat → Prop} {s : PSt} {W : World} (h : Pt B b bm m G s W) : ∀ k, G k → k < W.heap.size := by
  obtain ⟨v, F, n, _, _, _, h4⟩ := h; exact h4
theorem Pt.pages {B b bm m : Nat} {G : Nat → Prop} {s : PSt} {W : World} (h : Pt B b bm m G s W) : ∀ j, IsPage (s.pg j) := by
  obtain ⟨v, F, n, h1, _⟩ := h; exact pages_of h1
theorem Pt.less {B b bm m : Nat} {G H : Nat → Prop} {s : PSt} {W : World} (h : Pt B b bm m G s W) (hH : ∀ k, H k → G k) : Pt B b bm m H s W := by
  obtain ⟨v, F, n, h1, h2, h3, h4⟩ := h
  exact ⟨v, F, n, h1, h2, fun k hk hG => h3 k hk (hH k hG), fun k hk => h4 k (hH k hk)⟩
theorem pt_did {B b bm m n n' : Nat} {G F : Nat → Prop} {v : Value} {s s' : PSt} {W W' : World} (h : PlateAt W B F b n bm v s) (hd : Did W B F b n' bm s' W') (hn : n' ≤ m) (hF : ∀ k, F k → ¬ G k) (hG : ∀ k, G k → k < W.heap.size) :
    Pt B b bm m G s' W' ∧ Below B W W' ∧ Same G W W' := by
  obtain ⟨v', F', h1, h2, h3⟩ := hd
  refine ⟨⟨v', F', n', h1, hn, fun k hk hg => ?_, fun k hk => Nat.lt_of_lt_of_le (hG k hk) h3.size⟩, h3.below h.base h.low, fun k hk => h3.block k (hG k hk) (fun e => hF k e hk)⟩
  rcases h2 k hk with e | e
  · exact hF k e hg
  · have := hG k hg; omega
theorem pt_write {B b bm m : Nat} {G : Nat → Prop} {s : PSt} {W : World} (h : Pt B b bm m G s W) (i : Int) (ao : Option Addr) (len cap : Nat) (bs : List Value) (hon : s.off = false) (h0 : 0 ≤ i) (h1 : i < s.N) (hl : bs.length = len) (hlen : len ≤ 64) (hs : Src W ao bs) (hm : m ≤ 1000000) (ho : s.ops ≤ 1000000) (hop : s.op.length ≤ 1000000) :
    Calls Try.prog 16 #[.pointer (some ⟨b, 0, none⟩), .int .i64 i, .slice ao len cap] W fun e w' => e = .returned (.int .i64 (An s.left)) ∧ Pt B b bm (m + 1) G (wrote s i (pageOf bs)) w' ∧ Below B W w' ∧ Same G W w' := by
  obtain ⟨v, F, n, h2, h3, h4, h5⟩ := h
  refine (write_ok _ _ _ _ _ _ _ i ao len cap _ W h2 hon h0 h1 hl hlen hs (by unfold maxLen; omega) (by omega) (by omega)).mono ?_
  rintro e w' ⟨rfl, hD⟩
  exact ⟨rfl, pt_did h2 hD (by omega) h4 h5⟩
theorem pt_flush {B b bm m : Nat} {G : Nat → Prop} {s : PSt} {W : World} (h : Pt B b bm m G s W) (hon : s.off = false) (ho : s.ops ≤ 1000000) :
    Calls Try.prog 18 #[.pointer (some ⟨b, 0, none⟩)] W fun e w' => e = .returned (.int .i64 (An s.left)) ∧ Pt B b bm m G (flushed s) w' ∧ Below B W w' ∧ Same G W w' := by
  obtain ⟨v, F, n, h2, h3, h4, h5⟩ := h
  refine (flush_any _ _ _ _ _ _ _ W h2 hon (by omega)).mono ?_
  rintro e w' ⟨rfl, hD⟩
  exact ⟨rfl, pt_did h2 hD (by omega) h4 h5⟩
theorem pt_arm {B b bm m : Nat} {G : Nat → Prop} {s : PSt} {W : World} (h : Pt B b bm m G s W) (k : Int) (hon : s.off = false) (k0 : 0 ≤ k) (k1 : k ≤ 9223372036854775807) :
    Calls Try.prog 17 #[.pointer (some ⟨b, 0, none⟩), .int .i64 k] W fun e w' => e = .returned (.int .i64 0) ∧ Pt B b bm m G { s with left := k } w' ∧ Below B W w' ∧ Same G W w' := by
  obtain ⟨v, F, n, h2, h3, h4, h5⟩ := h
  refine (arm_ok _ _ _ _ _ _ _ k W h2 hon k0 k1).mono ?_
  rintro e w' ⟨rfl, hD⟩
  exact ⟨rfl, pt_did h2 hD (by omega) h4 h5⟩
theorem pt_some {L : List OpV} {w w' : World} {e : Ending} (h : SomeR L w e w') : ∃ b bm, e = .returned (.tuple #[.pointer (some ⟨b, 0, none⟩), .bool true]) ∧ Pt w.heap.size b bm 30 (fun _ => False) (ends L) w' ∧ Below w.heap.size w w' := by
  obtain ⟨b, bm, n, v, F, rfl, h1, h2, h3⟩ := h
  exact ⟨b, bm, rfl, ⟨v, F, n, h1, h2, fun _ _ h => h, fun _ h => h.elim⟩, h3⟩
theorem ends_ok (L : List OpV) : (ends L).N = 8 ∧ (ends L).off = false ∧ (ends L).left = 0 ∧ (ends L).op = [] ∧ (ends L).ops ≤ 31 := by
  obtain ⟨r1, r2, r3, r4, r5⟩ := ran_ok L (min L.length 30)
  unfold ends flushed
  rw [if_neg (by omega)]
  exact ⟨r1, r2, by simp [r3, Lf], rfl, by simp only; omega⟩
/-- Eight pages in a list, in blocks of G. -/
def PgS (G : Nat → Prop) (pg : Int → Array Value) (g : Nat) (W : World) : Prop :=
  G g ∧ (∀ j, IsPage (pg j)) ∧ ∀ j : Nat, j < 8 → ∃ q, G q ∧ W.cell? ⟨g, j, none⟩ = some (.slice (some ⟨q, 0, none⟩) 64 64) ∧ W.heap[q]? = some (.cells (pg j) 82 (0, 0))
theorem PgS.on {G : Nat → Prop} {pg : Int → Array Value} {g : Nat} {W W' : World} (h : PgS G pg g W) (hs : Same G W W') : PgS G pg g W' := by
  refine ⟨h.1, h.2.1, fun j hj => ?_⟩
  obtain ⟨q, h1, h2, h3⟩ := h.2.2 j hj
  exact ⟨q, h1, (World.cell?_of_block (hs g h.1)).trans h2, (hs q h1).trans h3⟩
theorem PgS.more {G H : Nat → Prop} {pg : Int → Array Value} {g : Nat} {W : World} (h : PgS G pg g W) (hH : ∀ k, G k → H k) : PgS H pg g W := by
  refine ⟨hH _ h.1, h.2.1, fun j hj => ?_⟩
  obtain ⟨q, h1, h2⟩ := h.2.2 j hj
  exact ⟨q, hH q h1, h2⟩
theorem pt_pages {B b bm m : Nat} {G : Nat → Prop} {s : PSt} {W : World} (h : Pt B b bm m G s W) (hon : s.off = false) (hN : s.N = 8) :
    Calls Try.prog 14 #[.pointer (some ⟨b, 0, none⟩)] W fun e w' => ∃ g c, e = .returned (.tuple #[.slice (some ⟨g, 0, none⟩) 8 c, .bool true]) ∧ 8 ≤ c ∧ PgS (fun k => G k ∨ (W.heap.size ≤ k ∧ k < w'.heap.size)) s.pg g w' ∧ Pt B b bm m (fun k => G k ∨ (W.heap.size ≤ k ∧ k < w'.heap.size)) s w' ∧ Below W.heap.size W w' := by
  have h' := h
  obtain ⟨v, F, n, h2, h3, h4, h5⟩ := h'
  refine (pages_any _ _ _ _ _ _ _ W h2 hon hN).mono ?_
  rintro e w' ⟨u, rfl, xs, hx, hown, hH, hB⟩
  rcases hown.2 with ⟨_, h0⟩ | ⟨g, cap, cur, rfl, hb, hg, hnc, hcm, hcs, ht⟩
  · exact absurd h0 (by decide)
  · refine ⟨g, cap, rfl, by omega, ⟨.inr ⟨hb, (Array.getElem?_eq_some_iff.1 hg).1⟩, pages_of h2, fun j hj => ?_⟩, h.new hB, hB⟩
    obtain ⟨q, hz, e, hq⟩ := hH j _ (List.getElem?_eq_getElem (by omega))
    refine ⟨q, .inr ⟨hz, (Array.getElem?_eq_some_iff.1 hq).1⟩, ?_, hq⟩
    have := hown.cells (g := g) rfl j _ (List.getElem?_eq_getElem (by omega))
    rw [Go.WideShapes.add_plain, Nat.zero_add, e] at this
    exact this
theorem page_src {W : World} {q : Nat} {c : Array Value} (h : W.heap[q]? = some (.cells c 82 (0, 0))) (hc : IsPage c) : Src W (some ⟨q, 0, none⟩) c.toList := by
  refine ⟨fun _ => ⟨_, rfl, fun j v hv => ?_⟩, hc.2⟩
  rw [Go.WideShapes.add_plain, Nat.zero_add, cell_of_row _ _ j c 82 (0, 0) h]
  simpa using hv
theorem page_len {c : Array Value} (h : IsPage c) : c.toList.length = 64 := by rw [Array.length_toList]; exact h.1
/-- Two pages held against one another. -/
theorem same_pages {W : World} {p q : Nat} {c d : Array Value} (hp : W.heap[p]? = some (.cells c 82 (0, 0))) (hq : W.heap[q]? = some (.cells d 82 (0, 0))) (hc : IsPage c) (hd : IsPage d) (e : c = d) (cp cq : Nat) :
    Calls Try.prog 22 #[.slice (some ⟨p, 0, none⟩) 64 cp, .slice (some ⟨q, 0, none⟩) 64 cq] W fun e w' => e = .returned (.bool true) ∧ Below W.heap.size W w' := by
  have := same_src (some ⟨p, 0, none⟩) (some ⟨q, 0, none⟩) 64 64 cp cq c.toList d.toList W (page_len hc) (page_len hd) (by unfold maxLen; omega) (page_src hp hc) (page_src hq hd)
  rwa [decide_eq_true (by rw [e])] at this
/-- A page held against bytes with zeroes behind them. -/
theorem same_zeros {W : World} {p g c : Nat} {d : Array Value} {bs : List Value} {q r : Nat} (hp : W.heap[p]? = some (.cells d 82 (0, 0))) (hd : IsPage d) (e : d = pageOf bs) (hq : bs.length = q) (hr : q + r = 64) (hs : Src W (some ⟨g, 0, none⟩) (bs ++ zs r)) (cp : Nat) :
    Calls Try.prog 22 #[.slice (some ⟨p, 0, none⟩) 64 cp, .slice (some ⟨g, 0, none⟩) (q + r) c] W fun e w' => e = .returned (.bool true) ∧ Below W.heap.size W w' := by
  have := same_src (some ⟨p, 0, none⟩) (some ⟨g, 0, none⟩) 64 (q + r) cp c d.toList (bs ++ zs r) W (page_len hd) (by rw [List.length_append, zs_len, hq]) (by unfold maxLen; omega) (page_src hp hd) hs
  have hz : d.toList = bs ++ zs r := by
    rw [e]
    simp only [pageOf, splice, List.take_zero, List.nil_append, Zp, Nat.zero_add, List.drop_replicate, zs]
    rw [show 64 - bs.length = r by omega]
  rwa [decide_eq_true (by rw [hz])] at this
theorem step_append_made {ops : Array Oper} {o : Oper} {a : Act} {w : World} {K : Act → World → Prop} {Q : Exit → Act → World → Prop} {E : Prop} (hw : Region.wanted o (yielded ops a.tmps) = true) (s x : Operand)
    (ho : o.op = .call { callee := .builtin .append, args := #[s, x], argTypes := #[31, 3] }) (base g n cap m : Nat) (xs : List Value) (hs : a.eval s = .slice (some ⟨g, 0, none⟩) n cap) (hx : a.eval x = .int .i64 m) (hown : w.ownsRow base 5 1 (.slice (some ⟨g, 0, none⟩) n cap) n xs) (hb : base ≤ w.heap.size) (hn : n ≤ 1000) (hm : m ≤ 1000)
    (h : ∀ g' cap' w', w'.ownsRow base 5 1 (.slice (some ⟨g', 0, none⟩) (n + m) cap') (n + m) (xs ++ zs m) → w.grownBy w' (some g) → (g' = g ∨ g' = w.heap.size) → K (a.put o.dst (.slice (some ⟨g', 0, none⟩) (n + m) cap')) w') : if Region.wanted o (yielded ops a.tmps) = true then Oper.wp Try.prog o a w K Q else E := by
  rw [if_pos hw]
  obtain ⟨g', cap', w', hrun, h1, h2, h3⟩ := run_append_made w base g n cap o.type m xs hown hb hn hm
  unfold Oper.wp
  simp [execOp, ho, resolve, invoke, builtin, hs, hx, hrun, Result.andThen]
  exact h g' cap' w' h1 h2 h3
end Go.Proofs.Ytjfbgihjgnbeeaa.Pl
