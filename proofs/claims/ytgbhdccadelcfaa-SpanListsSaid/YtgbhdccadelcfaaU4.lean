/- slices.AppendSeq, Collect and SortedFunc over spans, walked. -/
import Derived.Test.YtgbhdccadelcfaaU3
namespace Go.Proofs.Ytgbhdccadelcfaa.Sp
open Go Go.RowKit Go.Stop Go.Shelf
attribute [local go_sem] Oper.semAt_some
/-- Between two rounds: the box holds a list of the call's own with what has come. -/
def ApI (w : World) (pre : SL) (W : World) : Prop :=
  ∃ v, W.heap[w.heap.size]? = some (.cells #[v] 37 (0, 0)) ∧ W.ownsRow (w.heap.size + 1) 46 2 v pre.length (fl pre) ∧ Below w.heap.size w W ∧ w.heap.size + 1 ≤ W.heap.size
theorem own_obj {W : World} {B e s n : Nat} {v : Value} {xs : List Value} (h : W.ownsRow B e s v n xs) {g : Nat} (hg : v.ownBlock = some g) : B ≤ g ∧ ∃ o : Obj, W.heap[g]? = some o ∧ o.isCells = true := by
  rcases h.2 with ⟨e, _⟩ | ⟨g', cap, cur, e, h1, h2, _⟩
  · subst e; simp [Value.ownBlock] at hg
  · subst e
    simp [Value.ownBlock] at hg
    subst hg
    exact ⟨h1, _, h2, rfl⟩
theorem apI_own (w : World) : OwnFrom (w.heap.size + 1) (ApI w) := by
  intro pre A A' row ⟨v, h1, h2, h3, h4⟩ hg hr
  refine ⟨v, (hg.block _ (Array.getElem?_eq_some_iff.1 h1).1 (fun e => by have := (hr _ e.symm).1; omega)).trans h1, own_on h2 (fun g e => hg.block g (World.ownsRow.lt h2 g e).2 (fun e' => ?_)), h3.grown hg (by omega) (fun k e => by have := (hr k e).1; omega), Nat.le_trans h4 hg.size⟩
  obtain ⟨_, o, ho, hc⟩ := hr g e'.symm
  obtain ⟨_, o', ho', hc'⟩ := own_obj h2 e
  rw [ho] at ho'
  cases ho'
  rw [hc] at hc'
  cases hc'
theorem own_base2 {w : World} {B C e s n : Nat} {v : Value} {xs : List Value} (h : w.ownsRow C e s v n xs) (hB : B ≤ C) : w.ownsRow B e s v n xs := by
  refine ⟨h.1, ?_⟩
  rcases h.2 with h0 | ⟨g, cap, cur, e1, e2, e3⟩
  · exact .inl h0
  · exact .inr ⟨g, cap, cur, e1, Nat.le_trans hB e2, e3⟩
def frA (sv : Value) (b : Nat) (x5 x7 : Value) : Array Value := #[.slice none 0 0, sv, .pointer (some ⟨b, 0, none⟩), undef, .slice none 0 0, x5, sv, x7, undef, undef, undef, undef, undef]
/-- The loop's variable. -/
def ApA (w : World) (sv : Value) (x : Int × Int) (a' : Act) (W : World) : Prop :=
  ∃ Bx, w.heap.size + 1 ≤ Bx ∧ W.heap[Bx]? = some (.cells #[.int .u32 x.1, .int .u32 x.2] 46 (0, 0)) ∧ a' = { tmps := frA sv w.heap.size (.pointer (some ⟨Bx, 0, none⟩)) (.agg #[.int .u32 x.1, .int .u32 x.2]), defers := [] }
theorem apA_own (w : World) (sv : Value) (x : Int × Int) (a' : Act) (B0 : Nat) : OwnFrom B0 (fun (_ : Unit) W => ApA w sv x a' W) := by
  intro _ A A' row ⟨Bx, h1, h2, h3⟩ hg hr
  refine ⟨Bx, h1, (hg.block Bx (Array.getElem?_eq_some_iff.1 h2).1 (fun e => ?_)).trans h2, h3⟩
  obtain ⟨_, o, ho, hc⟩ := hr Bx e.symm
  rw [h2] at ho
  cases ho
  simp [Obj.isCells] at hc
theorem newsP (w : World) (x : Int × Int) : ∀ j u, (encP x)[j]? = some u → (w.alloc (.cells #[.int .u32 x.1, .int .u32 x.2] 46)).cell? ((⟨w.heap.size, 0, none⟩ : Addr).add j) = some u := by
  intro j u h
  match j, h with
  | 0, h => simp [encP] at h; subst h; simp [Addr.add, go_sem]
  | 1, h => simp [encP] at h; subst h; simp [Addr.add, go_sem]
  | j + 2, h => simp [encP] at h
set_option maxRecDepth 100000 in
set_option maxHeartbeats 2000000 in
theorem app_any (Bn : Nat) (ao : Option Addr) (cap : Nat) (L : SL) (w : World) (hBn : w.cell? ⟨Bn, 0, none⟩ = some (.slice ao L.length cap)) (hrd : Rd2 w ao L) (hL : L.length ≤ 100000) :
    Calls Try.prog 51 #[.slice none 0 0, .func (.func 45) #[] #[.pointer (some ⟨Bn, 0, none⟩)]] w fun e w' => ∃ v, e = .returned v ∧ w'.ownsRow w.heap.size 46 2 v L.length (fl L) ∧ Below w.heap.size w w' := by
  obtain ⟨i0, hi0, hz0, hz1, hz2⟩ := info_parts info46
  have HI := Lib.hid (And.intro hi0 (And.intro hz0 (And.intro hz1 hz2)))
  clear hi0 hz0 hz1 hz2
  have hb0 : Below w.heap.size w (w.alloc (.cells #[.slice none 0 0] 37)) := (Below.refl _ w).alloc (Nat.le_refl _) _
  have hst := vals_stops 2 (by decide) Bn w.heap.size ao cap L w (w.alloc (.cells #[.slice none 0 0] 37)) ((hb0.cell (p := ⟨Bn, 0, none⟩) (World.block_lt_of_cell? _ _ hBn)).trans hBn) hrd (Nat.le_refl _) (by simp) hb0 hL
  have hin : ApI w [] (w.alloc (.cells #[.slice none 0 0] 37)) := ⟨.slice none 0 0, heap_alloc_new w _, World.ownsRow_nil _ _ _ _, hb0, by simp⟩
  have hs0 : (w.alloc (.cells #[.slice none 0 0] 37)).heap.size = w.heap.size + 1 := by simp
  have HST := Lib.hid hst
  have HIN := Lib.hid hin
  have HS0 := Lib.hid hs0
  have HL := Lib.hid hL
  clear hst hin hb0 hBn hrd hL hs0
  refine (callsIn_wide (n := 3)).1 ?_
  refine callsIn_of_wp_marks Try.func51 rfl trivial ?_ rfl
  simp only [Try.ntmps51, List.size_toArray, List.length_cons, List.length_nil, Nat.reduceAdd, Nat.reduceSub, Array.replicate_succ, Array.replicate_zero, List.push_toArray, List.append_toArray, List.nil_append, List.cons_append]
  gi_wp2
  obtain ⟨W0, hW0⟩ : ∃ W0, w.alloc (.cells #[.slice none 0 0] 37) = W0 := ⟨_, rfl⟩
  rw [hW0] at HST HIN HS0 ⊢
  refine wpIn_rangeFunc_ownH rfl (by decide) (gf := 45) (lb := #[.pointer (some ⟨Bn, 0, none⟩)]) rfl trivial (enters_of Try.func45 (by kernel_rfl) rfl)
    HST.out belowK_t (belowK_b (by have := HS0.out; omega)) (Below.refl _ _) (fun _ => rfl)
    (ApI w) (fun _ _ _ => False) (by rw [HS0.out]; exact apI_own w) (fun c => (fun _ _ _ _ h => h.elim))
    HIN.out (ApA w (.func (.func 45) #[] #[.pointer (some ⟨Bn, 0, none⟩)])) (fun x a' => apA_own _ _ _ _ _) ?assign ?body ?done ?stop
  case stop =>
    rintro D c pre W hD hp h
    exact h.elim
  case assign =>
    intro l pre x W K hI hK
    have HAI := Lib.hid hI
    have HK := Lib.hid hK
    clear hI hK
    simp only [encV]
    gi_wp2
    obtain ⟨_, _, _, hbw, h4⟩ := HAI.out
    exact HK.out _ _ (KeepsFrom.of_grownBy (World.grownBy_alloc _ _ none) (fun j e => by cases e)) ((Below.refl _ W).alloc hbw.size _) (apI_own w pre W _ none HAI.out (World.grownBy_alloc _ _ none) (fun r e => by cases e)) ⟨W.heap.size, h4, heap_alloc_new W _, rfl⟩
  case body =>
    rintro l pre x a' W hl ⟨r, hr⟩ ⟨v, h1, h2, h3, h4⟩ ⟨Bx, hBx, bX, rfl⟩ hlt
    have cv := cell1 h1
    have fv := free1 (i := 0) h1
    have c0 : W.cell? ⟨Bx, 0, none⟩ = some (.int .u32 x.1) := by simp [World.cell?, bX]
    have c1 : W.cell? ⟨Bx, 1, none⟩ = some (.int .u32 x.2) := by simp [World.cell?, bX]
    have hp : pre.length < 100000 := by have := HL.out; omega
    have HO := Lib.hid h2
    have HH := Lib.hid (And.intro h1 (And.intro h3 h4))
    clear h1 h2 h3 bX hr hlt
    simp only [frA]
    gi_wp2_with (gi_at_builtin; refine wpListIn_append_own _ rfl (.tmp 8) (.tmp 10) 37 rfl (w.heap.size + 1) 46 i0 _ 2 8 Try.underlying37 HI.out.1 HI.out.2.1 HI.out.2.2.1 HI.out.2.2.2 rfl (by decide) v pre.length (fl pre) rfl (HO.out.alloc _) ⟨W.heap.size, 0, none⟩ 1 1 (encP x) rfl rfl (newsP W x) (one_cellsP x) (by unfold maxLen; omega) (by omega) (by simp; omega) ?_; intro v' w3 hown hgrow hnil; obtain ⟨ao3, cap3, ev3, _⟩ := own_slice hown; subst ev3; have H3 := Lib.hid (And.intro hown hgrow); have hp3 := (hgrow.block w.heap.size (by simp; omega) (fun e => by have := (own_obj HO.out e.symm).1; omega)).trans ((heap_alloc_old _ _ (by omega)).trans HH.out.1); have c3 := cell1 hp3; have f3 := free1 (i := 0) hp3; have HP3 := Lib.hid hp3; clear hown hgrow hnil hp3)
    have k1 : KeepsOthers W w3 := (KeepsOthers.alloc W _).trans (KeepsOthers.of_grownBy H3.out.2 (fun j o e ho => by
      obtain ⟨_, o', ho', hc⟩ := own_obj (HO.out.alloc (.cells #[.int .u32 x.1, .int .u32 x.2] 46)) e
      rw [ho] at ho'
      cases ho'
      exact hc))
    have b3 : Below w.heap.size W w3 := ((Below.refl _ W).alloc HH.out.2.1.size (.cells #[.int .u32 x.1, .int .u32 x.2] 46)).grown H3.out.2 (by have := HH.out.2.1.size; simp; omega) (fun k e => by have := (own_obj HO.out e).1; omega)
    have b4 : Below w.heap.size W (w3.setCell ⟨w.heap.size, 0, none⟩ (.slice ao3 (pre.length + 1) cap3)) := b3.setCell (p := ⟨w.heap.size, 0, none⟩) (Nat.le_refl _) _
    refine ⟨(k1.trans (KeepsOthers.setCell _ _ _)).from _, b4, .slice ao3 (pre.length + 1) cap3, set_block HP3.out, ?_, HH.out.2.1.trans b4, Nat.le_trans h4 b4.size⟩
    rw [List.length_append, fl_app]
    refine own_on (W := w3) H3.out.1 (fun g e => ?_)
    have hg := (own_obj H3.out.1 e).1
    show (w3.heap.modify w.heap.size _)[g]? = _
    rw [Array.getElem?_modify, if_neg (by omega)]
  case done =>
    rintro D ys W hD rfl ⟨v, h1, h2, h3, h4⟩ hK
    have cv := cell1 h1
    gi_wp2
    refine ⟨by simp, .inl ⟨_, _, rfl, run_takeDeferred hK, ?_⟩⟩
    refine ⟨v, ?_, v, rfl, ?_, ?_⟩
    · simp [results, Try.results51, go_sem]
    · refine own_base2 (own_on h2 (fun g e => World.putObj_heap_other ?_)) (Nat.le_succ _)
      rintro rfl
      obtain ⟨_, o, ho, hc⟩ := own_obj h2 e
      rw [hK] at ho
      cases ho
      cases hc
    · exact h3.trans (belowK_b (w := w) (Nat.le_refl _) W D _ _ (by have := HS0.out; omega) hK rfl rfl)
theorem collect_any (Bn : Nat) (ao : Option Addr) (cap : Nat) (L : SL) (w : World) (hBn : w.cell? ⟨Bn, 0, none⟩ = some (.slice ao L.length cap)) (hrd : Rd2 w ao L) (hL : L.length ≤ 100000) :
    Calls Try.prog 43 #[.func (.func 45) #[] #[.pointer (some ⟨Bn, 0, none⟩)]] w fun e w' => ∃ v, e = .returned v ∧ w'.ownsRow w.heap.size 46 2 v L.length (fl L) ∧ Below w.heap.size w w' := by
  have HA := Lib.hid (app_any Bn ao cap L w hBn hrd hL)
  clear hBn hrd hL
  go_enter Try.func43, Try.ntmps43
  go_wp2_with (go_at_call 51; refine HA.out.mono ?_; rintro e w1 ⟨v, rfl, ho, hb⟩; obtain ⟨ao1, cap1, ev, _⟩ := own_slice ho; subst ev; have H := Lib.hid (And.intro ho hb); clear ho hb)
  go_ret
  exact ⟨_, rfl, H.out⟩
theorem sorted_any (Bn : Nat) (ao : Option Addr) (cap : Nat) (L : SL) (w : World) (hBn : w.cell? ⟨Bn, 0, none⟩ = some (.slice ao L.length cap)) (hrd : Rd2 w ao L) (hL : L.length ≤ 100000) :
    Calls Try.prog 34 #[.func (.func 45) #[] #[.pointer (some ⟨Bn, 0, none⟩)], .func (.func 36) #[] #[]] w fun e w' => ∃ L' bo c, e = .returned (.slice bo L.length c) ∧ L'.Perm L ∧ Rd2 w' bo L' ∧ Below w.heap.size w w' := by
  have HA := Lib.hid (collect_any Bn ao cap L w hBn hrd hL)
  have HL := Lib.hid hL
  clear hBn hrd hL
  go_enter Try.func34, Try.ntmps34
  go_wp2_with (first
    | (go_at_call 43; refine HA.out.mono ?_; rintro e w1 ⟨v, rfl, ho, hb⟩; have HS := Lib.hid (sort_any rfl hb hb.size HL.out ho); obtain ⟨ao1, cap1, ev, _⟩ := own_slice ho; subst ev; clear ho hb)
    | (go_at_call 44; refine HS.out.mono ?_; rintro e w2 ⟨rfl, L', bo, c, hp, ev, hr, hb⟩; have H := Lib.hid (And.intro hp (And.intro ev (And.intro hr hb))); clear hp ev hr hb))
  go_ret
  obtain ⟨hp, ev, hr, hb⟩ := H.out
  simp only [Value.slice.injEq, true_and] at ev
  obtain ⟨rfl, rfl⟩ := ev
  exact ⟨L', _, _, rfl, hp, hr, hb⟩
end Go.Proofs.Ytgbhdccadelcfaa.Sp
