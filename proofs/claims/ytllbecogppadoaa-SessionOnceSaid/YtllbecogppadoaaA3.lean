/- session: strings.Clone, own, walked. -/
import Derived.Test.YtllbecogppadoaaA2
import Derived.Test.YtllbecogppadoaaShelf
namespace Go.Proofs.Ytllbecogppadoaa.Se
open Go Go.RowKit
theorem clone_any (s : ByteArray) (w : World) (h : s.size ≤ 281474976710656) : Calls Try.prog 20 #[.string s] w fun e w' => e = .returned (.string s) ∧ Below w.heap.size w w' := by
  have HC := Lib.hid (Try.stringslite_Clone s w h)
  clear h
  go_enter Try.func20, Try.ntmps20
  go_wp2_with (go_at_call 21; refine HC.out.mono ?_; rintro e w1 ⟨rfl, hb⟩; have H1 := Lib.hid hb; clear hb)
  go_ret
  exact ⟨rfl, H1.out⟩
/-- What is stored already may be stored once more. -/
theorem cell_same {w : World} {g i : Nat} {v : Value} (h : w.cell? ⟨g, i, none⟩ = some v) : w.setCell ⟨g, i, none⟩ v = w := by
  unfold World.cell? at h
  simp only at h
  split at h
  · rename_i c e f hg
    simp only [Option.isSome_none, Bool.false_eq_true, if_false] at h
    have hh : w.heap.modify g (fun
        | .cells c elem frozen => .cells (if (⟨g, i, none⟩ : Addr).spot.isSome then c else c.setIfInBounds (⟨g, i, none⟩ : Addr).off v) elem frozen
        | o => o) = w.heap := by
      apply Array.ext_getElem?
      intro k
      rw [Array.getElem?_modify]
      by_cases e1 : g = k
      · subst e1
        rw [if_pos rfl, hg]
        simp only [Option.map_some, Option.isSome_none, Bool.false_eq_true, if_false]
        congr 2
        apply Array.ext_getElem?
        intro m
        rw [Array.getElem?_setIfInBounds]
        by_cases e2 : i = m
        · subst e2
          rw [if_pos rfl, h]
          simp [(Array.getElem?_eq_some_iff.1 h).1]
        · rw [if_neg e2]
      · rw [if_neg e1]
    exact congrArg (fun h => ({ w with heap := h } : World)) hh
  · simp at h
theorem frozen_below {B g i : Nat} {w w' : World} (h : Below B w w') (hg : g < B) : w'.frozen? ⟨g, i, none⟩ = w.frozen? ⟨g, i, none⟩ := by
  simp [World.frozen?, h.block g hg]
theorem keepS {w' : World} {A : Addr} {x : Option Value} {g q : Nat} {v : Value} {H : World → Prop} (h : (w'.cell? A = x ∧ w'.cell? ⟨g, q, none⟩ = some v ∧ w'.frozen? ⟨g, q, none⟩ = false) ∧ H w') :
    ((w'.setCell ⟨g, q, none⟩ v).cell? A = x ∧ (w'.setCell ⟨g, q, none⟩ v).cell? ⟨g, q, none⟩ = some v ∧ (w'.setCell ⟨g, q, none⟩ v).frozen? ⟨g, q, none⟩ = false) ∧ H (w'.setCell ⟨g, q, none⟩ v) := by
  rw [cell_same h.1.2.1]; exact h
/-- Behind the lists: both laid anew. -/
structure LaidI (w : World) (a : An) (vo : Option Addr) (vc : Nat) (lo : Option Addr) (lc : Nat) (wr : World) : Prop where
  st : LayI w a.E a.At (.slice vo a.V.length vc) (.slice lo a.L.length lc) wr
  v : wr.ownsRow (w.heap.size + 2) 59 3 (.slice vo a.V.length vc) a.V.length (flV a.V)
  l : wr.ownsRow (w.heap.size + 2) 23 1 (.slice lo a.L.length lc) a.L.length (flN a.L)
  nv : vo = none → a.V.length = 0 ∧ vc = 0
  nl : lo = none → a.L.length = 0 ∧ lc = 0
theorem LaidI.below {w wr w' : World} {a : An} {vo lo : Option Addr} {vc lc : Nat} (h : LaidI w a vo vc lo lc wr) (hb : Below wr.heap.size wr w') : LaidI w a vo vc lo lc w' :=
  ⟨h.st.turn (Z := fun _ => False) (below_any hb) (fun _ => False.elim), own_on h.v (fun g e => hb.block g (World.ownsRow.lt h.v g e).2), own_on h.l (fun g e => hb.block g (World.ownsRow.lt h.l g e).2), h.nv, h.nl⟩
theorem LaidI.at_ {w wr : World} {a : An} {vo lo : Option Addr} {vc lc : Nat} (h : LaidI w a vo vc lo lc wr) {j : Nat} {t : VT} (ht : a.V[j]? = some t) : ∃ g, vo = some ⟨g, 0, none⟩ ∧ wr.cell? ⟨g, j * 3 + 2, none⟩ = some (.string t.2.2) ∧ wr.frozen? ⟨g, j * 3 + 2, none⟩ = false ∧ a.V.length ≤ vc := by
  rcases h.v.2 with ⟨h0, h1⟩ | ⟨g, cap', cur, h0, h1, h2, h3, h4⟩
  · rw [List.eq_nil_of_length_eq_zero h1] at ht; simp at ht
  · injection h0 with h0 _ hc
    subst h0; subst hc
    refine ⟨g, rfl, ?_, ?_, h3⟩
    · have := h.v.cells (g := g) rfl _ _ (flV_at ht 2 (by omega))
      rwa [Go.WideShapes.add_plain, Nat.zero_add] at this
    · simp [World.frozen?, h2]
set_option maxRecDepth 100000 in
set_option maxHeartbeats 1000000 in
theorem own_any (a : An) (p : Pl) (w : World) (h : AnAt w a p) : Calls Try.prog 16 #[a.val p] w fun e w' => OwnOf a w e w' := by
  obtain ⟨E, At, V, L⟩ := a
  obtain ⟨vo, vc, lo, lc⟩ := p
  obtain ⟨i0, hi0, hz0, hz1, hz2⟩ := info_parts info59
  obtain ⟨i1, hi1, hy0, hy1, hy2⟩ := info_parts info23
  have HZ := Lib.hid (And.intro hi0 (And.intro hz0 (And.intro hz1 hz2)))
  have HY := Lib.hid (And.intro hi1 (And.intro hy0 (And.intro hy1 hy2)))
  have H := Lib.hid h
  clear h hi0 hz0 hz1 hz2 hi1 hy0 hy1 hy2
  unfold An.val
  simp only
  have S1 := Lib.hid (LayI.start w E At (.slice vo V.length vc) (.slice lo L.length lc))
  go_enter Try.func16, Try.ntmps16
  go_wp2_with (first
    | (at_builtin; (refine wpList_lay rfl (.const (.slice none 0 0)) (.tmp 5) 26 rfl (w.heap.size + 2) 23 i1 _ 1 4 Try.underlying26 HY.out.1 HY.out.2.1 HY.out.2.2.1 HY.out.2.2.2 rfl (by decide) (by decide) _ rfl (World.ownsRow_nil _ _ _ _) lo L.length lc (flN L) rfl H.out.nl (by rw [flN_len, Nat.mul_one]) (H.out.l.below S1.out.b) (flN_one L) H.out.ok.l (by have := S1.out.lt; omega) ?_; intro lo' lc' w1 hn hown hgrow; have H1 := Lib.hid (S1.out.grown hgrow (by intro k e; simp [Value.ownBlock] at e)); have HV1 := Lib.hid (And.intro hown hn); obtain ⟨_, _, c2, c3, fz⟩ := H1.out.cells; have H2 := Lib.hid (H1.out.set3 (.slice lo' L.length lc')); obtain ⟨_, _, d2, _, dz⟩ := H2.out.cells; have V2 := Lib.hid (own_off hown (grown_set w1 w.heap.size 3 (.slice lo' L.length lc')) (by omega)); clear hn hown hgrow))
    | (at_builtin; (refine wpList_lay rfl (.const (.slice none 0 0)) (.tmp 9) 25 rfl (w.heap.size + 2) 59 i0 _ 3 32 Try.underlying25 HZ.out.1 HZ.out.2.1 HZ.out.2.2.1 HZ.out.2.2.2 rfl (by decide) (by decide) _ rfl (World.ownsRow_nil _ _ _ _) vo V.length vc (flV V) rfl H.out.nv (flV_len V) (H.out.v.below H2.out.b) (flV_one V) H.out.ok.v (by have := H2.out.lt; omega) ?_; intro vo' vc' w3 hn hown hgrow; have H3 := Lib.hid (H2.out.grown hgrow (by intro k e; simp [Value.ownBlock] at e)); have V3 := Lib.hid (own_on V2.out (fun g _ => hgrow.block g (World.ownsRow.lt V2.out g ‹_›).2 (by simp [Value.ownBlock]))); obtain ⟨_, _, x2, _, xf⟩ := H3.out.cells; have HI : Hid (LaidI w ⟨E, At, V, L⟩ vo' vc' lo' lc' (w3.setCell ⟨w.heap.size, 2, none⟩ (.slice vo' V.length vc'))) := Lib.hid ⟨H3.out.set2 _, own_off hown (grown_set w3 w.heap.size 2 _) (by omega), own_off V3.out (grown_set w3 w.heap.size 2 _) (by omega), hn, HV1.out.2⟩; have y2 := HI.out.st.cells.2.2.1; clear hn hown hgrow)))
  obtain ⟨W, hW⟩ : ∃ W, w3.setCell ⟨w.heap.size, 2, none⟩ (.slice vo' V.length vc') = W := ⟨_, rfl⟩
  rw [hW] at HI ⊢
  clear hW y2 x2 xf d2 dz c2 c3 fz
  obtain ⟨n, hn⟩ : ∃ n, V.length = n := ⟨_, rfl⟩
  have HN := Lib.hid hn
  have hn2 : n ≤ 4398046511104 := by have := H.out.ok.v; simp only at this; omega
  rw [hn]
  clear hn
  go_loopw [15] (fun u wr => ∃ j : Nat, j ≤ n ∧ u = .int .i64 j ∧ Hid (LaidI w ⟨E, At, V, L⟩ vo' vc' lo' lc' wr)) (fun u _ => n - (intOf u).toNat)
  case atStart => exact ⟨0, by omega, rfl, HI⟩
  case round =>
    obtain ⟨j, hj, rfl, HA⟩ := hrel
    clear HI
    have x2 := HA.out.st.cells.2.2.1
    simp only [HN.out] at x2
    by_cases hlt : j < n
    · obtain ⟨t, ht⟩ : ∃ t, V[j]? = some t := ⟨_, List.getElem?_eq_getElem (by have := HN.out; omega)⟩
      obtain ⟨g, rfl, xs, xz, _⟩ := HA.out.at_ ht
      have HC := Lib.hid (fun w' => clone_any t.2.2 w' (H.out.ok.s t (List.mem_of_getElem? ht)))
      have HT := Lib.hid ht
      have j1 : (j : Int) < (n : Int) := by omega
      have hl1 : w.heap.size < wr.heap.size := by have := HA.out.st.lt; omega
      have hl2 : g < wr.heap.size := World.block_lt_of_cell? wr _ xs
      clear ht
      go_wp2_with fail
      go_region_held3 (fun w' => (w'.cell? ⟨w.heap.size, 2, none⟩ = some (.slice (some ⟨g, 0, none⟩) n vc') ∧ w'.cell? ⟨g, j * 3 + 2, none⟩ = some (.string t.2.2) ∧ w'.frozen? ⟨g, j * 3 + 2, none⟩ = false) ∧ Hid (Below wr.heap.size wr w'))
        (first | exact ⟨⟨x2, xs, xz⟩, Lib.hid (Below.refl _ _)⟩ | exact ⟨⟨x2, xs, xz⟩, Lib.hid (Below.refl _ wr).drew⟩ | exact ⟨⟨(hbb.cell (p := ⟨w.heap.size, 2, none⟩) hl1).trans x2, (hbb.cell (p := ⟨g, j * 3 + 2, none⟩) hl2).trans xs, (frozen_below hbb hl2).trans xz⟩, Lib.hid ((Below.refl _ wr).drew.trans hbb)⟩ | assumption | (refine keepS (H := fun w' => Hid (Below wr.heap.size wr w')) ?_; assumption))
        (first | (go_at_call 20; refine (HC.out _).mono ?_; rintro e w' ⟨rfl, hbb⟩))
      all_goals (
        rename_i hS
        have HB := Lib.hid (HA.out.below hS.2.out)
        go_wp2_with fail
        go_roundw
        case rel => exact ⟨j + 1, by omega, by go_num, HB⟩
        case measure => simp [intOf]; omega)
    · obtain rfl : j = n := by omega
      obtain ⟨m0, m1, m2, m3, _⟩ := HA.out.st.cells
      obtain ⟨k0, f0, k1, f1, k2, f2, k3, f3, hend⟩ := four (.int .i64 E) (.int .i64 At) (.slice vo' V.length vc') (.slice lo' L.length lc') HA.out.st.kz
      have HEnd := Lib.hid hend
      simp only at m0 m1 m2 m3
      clear hend x2
      go_wp2_with fail
      obtain ⟨e1, e2, e3⟩ := laid_end (a := ⟨E, At, V, L⟩) HA.out.st H.out.ok HA.out.v HA.out.l HA.out.nv HA.out.nl
      exact bodyPost_ret (v := .agg #[.int .i64 E, .int .i64 At, .slice vo' V.length vc', .slice lo' L.length lc']) (results_cell_row rfl _ _ (w.heap.size + 1) 28 _ (0, 0) _ rfl HEnd.out Try.underlying28 rfl size28) rfl ⟨⟨vo', vc', lo', lc'⟩, rfl, e1, e2, e3⟩
end Go.Proofs.Ytllbecogppadoaa.Se
