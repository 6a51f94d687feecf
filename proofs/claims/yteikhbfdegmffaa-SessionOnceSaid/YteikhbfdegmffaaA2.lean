/- session: the law's twin, walked. -/
import Derived.Test.YteikhbfdegmffaaA1
namespace Go.Proofs.Yteikhbfdegmffaa.Se
open Go Go.RowKit
theorem free4 {w : World} {b i : Nat} {cs : Array Value} {t : TypeId} (h : w.heap[b]? = some (.cells cs t (0, 0))) : w.frozen? ⟨b, i, none⟩ = false := by
  simp [World.frozen?, h]
theorem cells4 {w : World} {b : Nat} {x y z u : Value} {T : TypeId} (h : w.heap[b]? = some (.cells #[x, y, z, u] T (0, 0))) : w.cell? ⟨b, 0, none⟩ = some x ∧ w.cell? ⟨b, 1, none⟩ = some y ∧ w.cell? ⟨b, 2, none⟩ = some z ∧ w.cell? ⟨b, 3, none⟩ = some u := by
  simp [World.cell?, h]
theorem lit0 (w : World) (B : Nat) (T : TypeId) (sz : Nat) (hB : B ≤ w.heap.size) : (w.alloc (.cells #[] T)).ownsRow B T sz (.slice (some ⟨w.heap.size, 0, none⟩) 0 0) 0 [] :=
  World.ownsRow_lit (base := B) (e := T) (size := sz) w #[] 0 hB (Nat.zero_le _) (by simp)
theorem grown4 (w : World) (b : Nat) (u0 u1 u2 u3 : Value) : w.grownBy ((((w.setCell ⟨b, 0, none⟩ u0).setCell ⟨b, 1, none⟩ u1).setCell ⟨b, 2, none⟩ u2).setCell ⟨b, 3, none⟩ u3) (some b) :=
  (((grown_set w b 0 u0).trans (grown_set _ b 1 u1)).trans (grown_set _ b 2 u2)).trans (grown_set _ b 3 u3)
theorem four {w : World} {b : Nat} {c0 c1 c2 c3 : Value} {t : TypeId} (u0 u1 u2 u3 : Value) (h : w.heap[b]? = some (.cells #[c0, c1, c2, c3] t (0, 0))) :
    w.cell? ⟨b, 0, none⟩ = some c0 ∧ w.frozen? ⟨b, 0, none⟩ = false ∧
    (w.setCell ⟨b, 0, none⟩ u0).cell? ⟨b, 1, none⟩ = some c1 ∧ (w.setCell ⟨b, 0, none⟩ u0).frozen? ⟨b, 1, none⟩ = false ∧
    ((w.setCell ⟨b, 0, none⟩ u0).setCell ⟨b, 1, none⟩ u1).cell? ⟨b, 2, none⟩ = some c2 ∧ ((w.setCell ⟨b, 0, none⟩ u0).setCell ⟨b, 1, none⟩ u1).frozen? ⟨b, 2, none⟩ = false ∧
    (((w.setCell ⟨b, 0, none⟩ u0).setCell ⟨b, 1, none⟩ u1).setCell ⟨b, 2, none⟩ u2).cell? ⟨b, 3, none⟩ = some c3 ∧ (((w.setCell ⟨b, 0, none⟩ u0).setCell ⟨b, 1, none⟩ u1).setCell ⟨b, 2, none⟩ u2).frozen? ⟨b, 3, none⟩ = false ∧
    ((((w.setCell ⟨b, 0, none⟩ u0).setCell ⟨b, 1, none⟩ u1).setCell ⟨b, 2, none⟩ u2).setCell ⟨b, 3, none⟩ u3).heap[b]? = some (.cells #[u0, u1, u2, u3] t (0, 0)) := by
  have h1 := set_block (i := 0) (v := u0) h
  have h2 := set_block (i := 1) (v := u1) h1
  have h3 := set_block (i := 2) (v := u2) h2
  have h4 := set_block (i := 3) (v := u3) h3
  exact ⟨by simp [World.cell?, h], free4 h, by simp [World.cell?, h1], free4 h1, by simp [World.cell?, h2], free4 h2, by simp [World.cell?, h3], free4 h3, h4.trans rfl⟩
/-- While an answer is laid anew: its box and the result's, and which lists are laid. -/
structure LayI (w : World) (E At : Int) (z2 z3 : Value) (wr : World) : Prop where
  ka : wr.heap[w.heap.size]? = some (.cells #[.int .i64 E, .int .i64 At, z2, z3] 28 (0, 0))
  kz : wr.heap[w.heap.size + 1]? = some (.cells #[.int .i64 0, .int .i64 0, .slice none 0 0, .slice none 0 0] 28 (0, 0))
  b : Below w.heap.size w wr
section
variable {w wr : World} {E At : Int} {z2 z3 : Value}
theorem LayI.lt (h : LayI w E At z2 z3 wr) : w.heap.size + 1 < wr.heap.size := (Array.getElem?_eq_some_iff.1 h.kz).1
theorem LayI.start (w : World) (E At : Int) (z2 z3 : Value) : LayI w E At z2 z3 ((w.alloc (.cells #[.int .i64 E, .int .i64 At, z2, z3] 28)).alloc (.cells #[.int .i64 0, .int .i64 0, .slice none 0 0, .slice none 0 0] 28)) :=
  ⟨(heap_alloc_old _ _ (by simp)).trans (heap_alloc_new _ _), heap_alloc2_new _ _ _, ((Below.refl _ w).alloc (Nat.le_refl _) _).alloc (by simp) _⟩
theorem LayI.alloc (h : LayI w E At z2 z3 wr) (o : Obj) : LayI w E At z2 z3 (wr.alloc o) :=
  ⟨(heap_alloc_old _ _ (by have := h.lt; omega)).trans h.ka, (heap_alloc_old _ _ h.lt).trans h.kz, h.b.alloc h.b.size o⟩
theorem LayI.grown {w' : World} {g : Option Nat} (h : LayI w E At z2 z3 wr) (hg : wr.grownBy w' g) (hge : ∀ k, g = some k → w.heap.size + 2 ≤ k) : LayI w E At z2 z3 w' :=
  ⟨(hg.block _ (by have := h.lt; omega) (fun e => by have := hge _ e.symm; omega)).trans h.ka, (hg.block _ h.lt (fun e => by have := hge _ e.symm; omega)).trans h.kz, h.b.grown hg h.b.size (fun k e => by have := hge _ e; omega)⟩
theorem LayI.turn {w' : World} {Z : Nat → Prop} (h : LayI w E At z2 z3 wr) (ht : Turned Z wr w') (hZ : ∀ k, Z k → w.heap.size + 2 ≤ k) : LayI w E At z2 z3 w' :=
  ⟨(ht.block _ (by have := h.lt; omega) (fun e => by have := hZ _ e; omega)).trans h.ka, (ht.block _ h.lt (fun e => by have := hZ _ e; omega)).trans h.kz, h.b.trans (ht.below h.b.size (fun k e => by have := hZ _ e; omega))⟩
theorem LayI.set2 (h : LayI w E At z2 z3 wr) (v : Value) : LayI w E At v z3 (wr.setCell ⟨w.heap.size, 2, none⟩ v) :=
  ⟨(set_block h.ka).trans rfl, ((grown_set wr w.heap.size 2 v).block _ h.lt (by simp)).trans h.kz, h.b.setCell (p := ⟨w.heap.size, 2, none⟩) (Nat.le_refl _) v⟩
theorem LayI.set3 (h : LayI w E At z2 z3 wr) (v : Value) : LayI w E At z2 v (wr.setCell ⟨w.heap.size, 3, none⟩ v) :=
  ⟨(set_block h.ka).trans rfl, ((grown_set wr w.heap.size 3 v).block _ h.lt (by simp)).trans h.kz, h.b.setCell (p := ⟨w.heap.size, 3, none⟩) (Nat.le_refl _) v⟩
theorem LayI.cells (h : LayI w E At z2 z3 wr) : wr.cell? ⟨w.heap.size, 0, none⟩ = some (.int .i64 E) ∧ wr.cell? ⟨w.heap.size, 1, none⟩ = some (.int .i64 At) ∧ wr.cell? ⟨w.heap.size, 2, none⟩ = some z2 ∧ wr.cell? ⟨w.heap.size, 3, none⟩ = some z3 ∧ ∀ j, wr.frozen? ⟨w.heap.size, j, none⟩ = false := by
  obtain ⟨a, b, c, d⟩ := cells4 h.ka
  exact ⟨a, b, c, d, fun j => free4 h.ka⟩
theorem own_off {W W' : World} {B e size k : Nat} {v : Value} {xs : List Value} {g : Nat} (h : W.ownsRow B e size v k xs) (hg : W.grownBy W' (some g)) (hgB : g < B) : W'.ownsRow B e size v k xs :=
  own_on h (fun q e => hg.block q (World.ownsRow.lt h q e).2 (fun e2 => by have := (World.ownsRow.lt h q e).1; have := Option.some.inj e2; omega))
end
/-- The end: both lists are of the call's own, and the result is filled. -/
theorem laid_end {w wr : World} {a : An} {vo lo : Option Addr} {vc lc : Nat} (h : LayI w a.E a.At (.slice vo a.V.length vc) (.slice lo a.L.length lc) wr) (ok : a.ok)
    (hv : wr.ownsRow (w.heap.size + 2) 59 3 (.slice vo a.V.length vc) a.V.length (flV a.V)) (hl : wr.ownsRow (w.heap.size + 2) 23 1 (.slice lo a.L.length lc) a.L.length (flN a.L))
    (nv : vo = none → a.V.length = 0 ∧ vc = 0) (nl : lo = none → a.L.length = 0 ∧ lc = 0) :
    AnAt ((((wr.setCell ⟨w.heap.size + 1, 0, none⟩ (.int .i64 a.E)).setCell ⟨w.heap.size + 1, 1, none⟩ (.int .i64 a.At)).setCell ⟨w.heap.size + 1, 2, none⟩ (.slice vo a.V.length vc)).setCell ⟨w.heap.size + 1, 3, none⟩ (.slice lo a.L.length lc)) a ⟨vo, vc, lo, lc⟩ ∧
    Pl.off ⟨vo, vc, lo, lc⟩ (fun k => k < w.heap.size) ∧
    Below w.heap.size w ((((wr.setCell ⟨w.heap.size + 1, 0, none⟩ (.int .i64 a.E)).setCell ⟨w.heap.size + 1, 1, none⟩ (.int .i64 a.At)).setCell ⟨w.heap.size + 1, 2, none⟩ (.slice vo a.V.length vc)).setCell ⟨w.heap.size + 1, 3, none⟩ (.slice lo a.L.length lc)) := by
  have g4 := grown4 wr (w.heap.size + 1) (.int .i64 a.E) (.int .i64 a.At) (.slice vo a.V.length vc) (.slice lo a.L.length lc)
  obtain ⟨v1, v2⟩ := rdc_own (own_off hv g4 (by omega)) (fun h0 => List.eq_nil_of_length_eq_zero (by rw [flV_len, h0]))
  obtain ⟨l1, l2⟩ := rdc_own (own_off hl g4 (by omega)) (fun h0 => List.eq_nil_of_length_eq_zero (by rw [flN_len, h0]))
  exact ⟨⟨v1, l1, nv, nl, ok⟩, ⟨fun b o e h0 => by have := v2 b o e; omega, fun b o e h0 => by have := l2 b o e; omega⟩, h.b.grown g4 h.b.size (fun g e => by have := Option.some.inj e; omega)⟩
theorem lit_at {w w1 : World} {E At : Int} {z2 z3 : Value} (h : LayI w E At z2 z3 w1) (v : Value) : ((w1.setCell ⟨w.heap.size, 2, none⟩ v).alloc (.cells #[] 23)).ownsRow (w.heap.size + 2) 23 1 (.slice (some ⟨w1.heap.size, 0, none⟩) 0 0) 0 [] := by
  have := lit0 (w1.setCell ⟨w.heap.size, 2, none⟩ v) (w.heap.size + 2) 23 1 (by have := h.lt; simp; omega)
  simpa using this
theorem own_next {w1 W2 w3 : World} {B e size k : Nat} {v : Value} {xs : List Value} {n c : Nat} (h1 : w1.ownsRow B e size v k xs) (h2 : W2.ownsRow B e size v k xs) (hg : W2.grownBy w3 (Value.slice (some ⟨w1.heap.size, 0, none⟩) n c).ownBlock) : w3.ownsRow B e size v k xs :=
  own_on h2 (fun g e => hg.block g (World.ownsRow.lt h2 g e).2 (fun e2 => by have h3 := (World.ownsRow.lt h1 g e).2; have e3 : g = w1.heap.size := Option.some.inj e2; omega))
set_option maxRecDepth 100000 in
set_option maxHeartbeats 1000000 in
theorem twin_any (a : An) (p : Pl) (w : World) (h : AnAt w a p) : Calls Try.prog 9 #[a.val p] w fun e w' => OwnOf a w e w' := by
  obtain ⟨E, At, V, L⟩ := a
  obtain ⟨vo, vc, lo, lc⟩ := p
  obtain ⟨i0, hi0, hz0, hz1, hz2⟩ := info_parts info59
  obtain ⟨i1, hi1, hy0, hy1, hy2⟩ := info_parts info23
  have HZ := Lib.hid (And.intro hi0 (And.intro hz0 (And.intro hz1 hz2)))
  have HY := Lib.hid (And.intro hi1 (And.intro hy0 (And.intro hy1 hy2)))
  have H := Lib.hid h
  clear h hi0 hz0 hz1 hz2 hi1 hy0 hy1 hy2
  unfold An.val
  simp only
  have S0 := Lib.hid (LayI.start w E At (.slice vo V.length vc) (.slice lo L.length lc))
  have O1 : Hid ((((w.alloc (.cells #[.int .i64 E, .int .i64 At, .slice vo V.length vc, .slice lo L.length lc] 28)).alloc (.cells #[.int .i64 0, .int .i64 0, .slice none 0 0, .slice none 0 0] 28)).alloc (.cells #[] 59)).ownsRow (w.heap.size + 2) 59 3 (.slice (some ⟨w.heap.size + 1 + 1, 0, none⟩) 0 0) 0 []) := Lib.hid (by
    have := lit0 ((w.alloc (.cells #[.int .i64 E, .int .i64 At, .slice vo V.length vc, .slice lo L.length lc] 28)).alloc (.cells #[.int .i64 0, .int .i64 0, .slice none 0 0, .slice none 0 0] 28)) (w.heap.size + 2) 59 3 (by simp)
    simpa using this)
  have S1 := Lib.hid (S0.out.alloc (.cells #[] 59))
  go_enter Try.func9, Try.ntmps9
  go_wp2_with (first
    | (at_builtin; (refine wpList_lay rfl (.tmp 3) (.tmp 5) 25 rfl (w.heap.size + 2) 59 i0 _ 3 32 Try.underlying25 HZ.out.1 HZ.out.2.1 HZ.out.2.2.1 HZ.out.2.2.2 rfl (by decide) (by decide) _ rfl O1.out vo V.length vc (flV V) rfl H.out.nv (flV_len V) (H.out.v.below S1.out.b) (flV_one V) H.out.ok.v (by have := S1.out.lt; omega) ?_; intro vo' vc' w1 hn hown hgrow; have H1 := Lib.hid (S1.out.grown hgrow (by intro k e; simp [Value.ownBlock] at e; omega)); have HV1 := Lib.hid (And.intro hown hn); obtain ⟨_, _, c2, c3, fz⟩ := H1.out.cells; have H2 := Lib.hid ((H1.out.set2 (.slice vo' V.length vc')).alloc (.cells #[] 23)); obtain ⟨_, _, _, d3, _⟩ := H2.out.cells; have O2 := Lib.hid (lit_at H1.out (.slice vo' V.length vc')); have V2 := Lib.hid ((own_off hown (grown_set w1 w.heap.size 2 (.slice vo' V.length vc')) (by omega)).alloc (.cells #[] 23)); clear hn hown hgrow))
    | (at_builtin; (refine wpList_lay rfl (.tmp 8) (.tmp 10) 26 rfl (w.heap.size + 2) 23 i1 _ 1 4 Try.underlying26 HY.out.1 HY.out.2.1 HY.out.2.2.1 HY.out.2.2.2 rfl (by decide) (by decide) _ rfl O2.out lo L.length lc (flN L) rfl H.out.nl (by rw [flN_len, Nat.mul_one]) (H.out.l.below H2.out.b) (flN_one L) H.out.ok.l (by have := H2.out.lt; omega) ?_; intro lo' lc' w3 hn hown hgrow; have H3 := Lib.hid (H2.out.grown hgrow (by intro k e; have := H1.out.lt; simp [Value.ownBlock] at e; omega)); have V3 := Lib.hid (own_next HV1.out.1 V2.out hgrow); obtain ⟨_, _, _, x3, xf⟩ := H3.out.cells; have H4 := Lib.hid (H3.out.set3 (.slice lo' L.length lc')); have V4 := Lib.hid (own_off V3.out (grown_set w3 w.heap.size 3 (.slice lo' L.length lc')) (by omega)); have L4 := Lib.hid (own_off hown (grown_set w3 w.heap.size 3 (.slice lo' L.length lc')) (by omega)); have N4 := Lib.hid hn; obtain ⟨m0, m1, m2, m3, _⟩ := H4.out.cells; obtain ⟨k0, f0, k1, f1, k2, f2, k3, f3, hend⟩ := four (.int .i64 E) (.int .i64 At) (.slice vo' V.length vc') (.slice lo' L.length lc') H4.out.kz; have HEnd := Lib.hid hend; clear hn hown hgrow hend)))
  obtain ⟨e1, e2, e3⟩ := laid_end (a := ⟨E, At, V, L⟩) H4.out H.out.ok V4.out L4.out HV1.out.2 N4.out
  exact bodyPost_ret (v := .agg #[.int .i64 E, .int .i64 At, .slice vo' V.length vc', .slice lo' L.length lc']) (results_cell_row rfl _ _ (w.heap.size + 1) 28 _ (0, 0) _ rfl HEnd.out Try.underlying28 rfl size28) rfl ⟨⟨vo', vc', lo', lc'⟩, rfl, e1, e2, e3⟩
end Go.Proofs.Yteikhbfdegmffaa.Se
