/- ghost: keys collected, and sorted. -/
import Derived.Test.YtgjjfodogkcmmaaT6
namespace Go.Proofs.Ytgjjfodogkcmmaa.Gh
open Go Go.RowKit Go.Stop Go.Shelf Ytgjjfodogkcmmaa.So
attribute [local go_sem] Oper.semAt_some
theorem free1 {w : World} {b i : Nat} {cs : Array Value} {t : TypeId} (h : w.heap[b]? = some (.cells cs t (0, 0))) : w.frozen? ⟨b, i, none⟩ = false := by
  simp [World.frozen?, h]
theorem set_block {w : World} {b i : Nat} {cs : Array Value} {t : TypeId} {v : Value} (h : w.heap[b]? = some (.cells cs t (0, 0))) : (w.setCell ⟨b, i, none⟩ v).heap[b]? = some (.cells (cs.setIfInBounds i v) t (0, 0)) := by
  rw [setCell_eq_setRow w b i cs t (0, 0) v h, setRow_heap w b cs _ t (0, 0) h]
/-- Between two rounds: the box holds a list of the call's own with what has come. -/
def ApI (w : World) (pre : List Int) (W : World) : Prop :=
  ∃ v, W.heap[w.heap.size]? = some (.cells #[v] 37 (0, 0)) ∧ W.ownsRow (w.heap.size + 1) 24 1 v pre.length (u32s pre) ∧ Below w.heap.size w W ∧ w.heap.size + 1 ≤ W.heap.size
theorem own_obj {W : World} {B n : Nat} {v : Value} {xs : List Value} (h : W.ownsRow B 24 1 v n xs) {g : Nat} (hg : v.ownBlock = some g) : B ≤ g ∧ ∃ o : Obj, W.heap[g]? = some o ∧ o.isCells = true ∧ o.isWalk = false := by
  rcases h.2 with ⟨e, _⟩ | ⟨g', cap, cur, e, h1, h2, _⟩
  · subst e; simp [Value.ownBlock] at hg
  · subst e
    simp [Value.ownBlock] at hg
    subst hg
    exact ⟨h1, _, h2, rfl, rfl⟩
theorem apI_own (w : World) : OwnFrom (w.heap.size + 1) (ApI w) := by
  intro pre A A' row ⟨v, h1, h2, h3, h4⟩ hg hr
  refine ⟨v, (hg.block _ (Array.getElem?_eq_some_iff.1 h1).1 (fun e => by have := (hr _ e.symm).1; omega)).trans h1, own_on h2 (fun g e => hg.block g (World.ownsRow.lt h2 g e).2 (fun e' => ?_)), h3.grown hg (by omega) (fun k e => by have := (hr k e).1; omega), Nat.le_trans h4 hg.size⟩
  obtain ⟨_, o, ho, hc⟩ := hr g e'.symm
  obtain ⟨_, o', ho', hc', _⟩ := own_obj h2 e
  rw [ho] at ho'
  cases ho'
  rw [hc] at hc'
  cases hc'
def frA (sv : Value) (b : Nat) (x : Value) : Array Value := #[.slice none 0 0, sv, .pointer (some ⟨b, 0, none⟩), undef, .slice none 0 0, x, sv, x, undef, undef, undef, undef, undef]
theorem keys_stops (n : Nat) (hn : 1 ≤ n) (Bm b nn : Nat) (D0 : DataW Value) (w : World) (hBm : Bm < w.heap.size) (hm : w.cell? ⟨Bm, 0, none⟩ = some (.map (some b))) (hown : w.ownsMap Try.prog 24 tok b nn D0) :
    SeqStopsK Fence.wide n Try.prog 54 #[.pointer (some ⟨Bm, 0, none⟩)] encV KeepsWalks (AllKeys D0) (fun _ => True) (Maps.size D0) w := fun l J Jx W hW hJ _ hY h0 => by
  have hown' : W.ownsMap Try.prog 24 tok b nn D0 := by
    have hbl := hown.lt
    obtain ⟨es, clock, hb, Ft, hs, hD⟩ := hown
    exact ⟨es, clock, (hW.block b hbl).trans hb, Ft, hs, hD⟩
  exact keys_in n hn l Bm b nn D0 J Jx hY W hJ ((hW.cell (p := ⟨Bm, 0, none⟩) hBm).trans hm) hown' h0
theorem keysK_b : ∀ (W : World) (l : Nat) (o o' : Obj), W.heap[l]? = some o → o.isCells = false → o.isWalk = false → KeepsWalks W (W.putObj l o') := fun _ _ _ o' h _ hw => KeepsWalks.putObj o' h hw
set_option maxRecDepth 100000 in
set_option maxHeartbeats 2000000 in
theorem app_any (Bm b nn : Nat) (D0 : DataW Value) (w : World) (hBm : Bm < w.heap.size) (hm : w.cell? ⟨Bm, 0, none⟩ = some (.map (some b))) (hown : w.ownsMap Try.prog 24 tok b nn D0) (hnn : nn ≤ 1000000000000) :
    Calls Try.prog 75 #[.slice none 0 0, .func (.func 54) #[] #[.pointer (some ⟨Bm, 0, none⟩)]] w fun e w' => ∃ v ss, e = .returned v ∧ AllKeys D0 ss ∧ w'.ownsRow w.heap.size 24 1 v ss.length (u32s ss) ∧ Below w.heap.size w w' := by
  obtain ⟨i0, hi0, hz0, hz1, hz2⟩ := info_parts info24
  have HI := Lib.hid (And.intro hi0 (And.intro hz0 (And.intro hz1 hz2)))
  clear hi0 hz0 hz1 hz2
  have hb0 : Below w.heap.size w (w.alloc (.cells #[.slice none 0 0] 37)) := (Below.refl _ w).alloc (Nat.le_refl _) _
  have hsz : Maps.size D0 ≤ 1000000000000 := Nat.le_trans hown.size_le hnn
  have hst := keys_stops 2 (by decide) Bm b nn D0 w hBm hm hown
  have hin : ApI w [] (w.alloc (.cells #[.slice none 0 0] 37)) := ⟨.slice none 0 0, heap_alloc_new w _, World.ownsRow_nil _ _ _ _, hb0, by simp⟩
  have hs0 : (w.alloc (.cells #[.slice none 0 0] 37)).heap.size = w.heap.size + 1 := by simp
  have HST := Lib.hid hst
  have HIN := Lib.hid hin
  have HS0 := Lib.hid hs0
  have HL := Lib.hid hsz
  have HB0 := Lib.hid hb0
  clear hst hin hb0 hm hown hs0 hsz
  refine (callsIn_wide (n := 3)).1 ?_
  refine callsIn_of_wp_marks Try.func75 rfl trivial ?_ rfl
  simp only [Try.ntmps75, List.size_toArray, List.length_cons, List.length_nil, Nat.reduceAdd, Nat.reduceSub, Array.replicate_succ, Array.replicate_zero, List.push_toArray, List.append_toArray, List.nil_append, List.cons_append]
  gi_wp2
  obtain ⟨W0, hW0⟩ : ∃ W0, w.alloc (.cells #[.slice none 0 0] 37) = W0 := ⟨_, rfl⟩
  rw [hW0] at HIN HS0 HB0 ⊢
  refine wpIn_rangeFunc_ownH rfl (by decide) (gf := 54) (lb := #[.pointer (some ⟨Bm, 0, none⟩)]) rfl trivial (enters_of Try.func54 (by kernel_rfl) rfl)
    HST.out (fun h k => h.trans k) (fun W l o o' _ h1 h2 h3 => keysK_b W l o o' h1 h2 h3) HB0.out (fun _ => rfl)
    (ApI w) (fun _ _ _ => False) (by rw [HS0.out]; exact apI_own w) (fun c => (fun _ _ _ _ h => h.elim))
    HIN.out (fun x a' _ => a' = { tmps := frA (.func (.func 54) #[] #[.pointer (some ⟨Bm, 0, none⟩)]) w.heap.size (.int .u32 x), defers := [] }) (fun x a' => fun _ _ _ _ h _ _ => h) ?assign ?body ?done ?stop
  case stop =>
    rintro D c pre W hD hp h
    exact h.elim
  case assign =>
    intro l pre x W K hI hK
    have HK := Lib.hid hK
    have HAI := Lib.hid hI
    clear hK hI
    simp only [encV]
    gi_wp2
    exact HK.out _ _ (KeepsOthers.refl W |>.from _) (KeepsWalks.refl W) HAI.out rfl
  case body =>
    rintro l pre x a' W hl ⟨r, hr⟩ ⟨v, h1, h2, h3, h4⟩ rfl hlt
    have cv := cell1 h1
    have fv := free1 (i := 0) h1
    have hp : pre.length < 1000000000000 := by have := HL.out; omega
    have HO := Lib.hid h2
    have HH := Lib.hid (And.intro h1 (And.intro h3 h4))
    clear h1 h2 h3 hr hlt
    simp only [frA]
    gi_wp2_with (gi_at_builtin; refine wpListIn_append_own _ rfl (.tmp 8) (.tmp 10) 37 rfl (w.heap.size + 1) 24 i0 _ 1 4 Try.underlying37 HI.out.1 HI.out.2.1 HI.out.2.2.1 HI.out.2.2.2 rfl (by decide) v pre.length (u32s pre) rfl (HO.out.alloc _) ⟨W.heap.size, 0, none⟩ 1 1 [.int .u32 x] rfl rfl (new1 x W 24) (one_u32 x) (by unfold maxLen; omega) (by omega) (by simp; omega) ?_; intro v' w3 hown hgrow hnil; obtain ⟨ao3, cap3, ev3, _⟩ := own_slice hown; subst ev3; have H3 := Lib.hid (And.intro hown hgrow); have hp3 := (hgrow.block w.heap.size (by simp; omega) (fun e => by have := (own_obj HO.out e.symm).1; omega)).trans ((heap_alloc_old _ _ (by omega)).trans HH.out.1); have c3 := cell1 hp3; have f3 := free1 (i := 0) hp3; have HP3 := Lib.hid hp3; clear hown hgrow hnil hp3)
    have k1 : KeepsOthers W w3 := (KeepsOthers.alloc W _).trans (KeepsOthers.of_grownBy H3.out.2 (fun j o e ho => by
      obtain ⟨_, o', ho', hc, _⟩ := own_obj (HO.out.alloc (.cells #[.int .u32 x] 24)) e
      rw [ho] at ho'
      cases ho'
      exact hc))
    have kw : KeepsWalks W w3 := (KeepsWalks.alloc W _).trans (KeepsWalks.of_grownBy H3.out.2 (fun j o e ho => by
      obtain ⟨_, o', ho', _, hc⟩ := own_obj (HO.out.alloc (.cells #[.int .u32 x] 24)) e
      rw [ho] at ho'
      cases ho'
      exact hc))
    have b3 : Below w.heap.size W w3 := ((Below.refl _ W).alloc HH.out.2.1.size (.cells #[.int .u32 x] 24)).grown H3.out.2 (by have := HH.out.2.1.size; simp; omega) (fun k e => by have := (own_obj HO.out e).1; omega)
    have b4 : Below w.heap.size W (w3.setCell ⟨w.heap.size, 0, none⟩ (.slice ao3 (pre.length + 1) cap3)) := b3.setCell (p := ⟨w.heap.size, 0, none⟩) (Nat.le_refl _) _
    refine ⟨(k1.trans (KeepsOthers.setCell _ _ _)).from _, kw.trans (KeepsWalks.setCell _ _ _), .slice ao3 (pre.length + 1) cap3, set_block HP3.out, ?_, HH.out.2.1.trans b4, Nat.le_trans h4 b4.size⟩
    rw [List.length_append, u32s_app]
    refine own_on (W := w3) H3.out.1 (fun g e => ?_)
    have hg := (own_obj H3.out.1 e).1
    show (w3.heap.modify w.heap.size _)[g]? = _
    rw [Array.getElem?_modify, if_neg (by omega)]
  case done =>
    rintro D ys W hD hys ⟨v, h1, h2, h3, h4⟩ hK
    have cv := cell1 h1
    gi_wp2
    refine ⟨by simp, .inl ⟨_, _, rfl, run_takeDeferred hK, ?_⟩⟩
    refine ⟨v, ?_, v, ys, rfl, hys, ?_, ?_⟩
    · simp [results, Try.results75, go_sem]
    · refine own_base (own_on h2 (fun g e => World.putObj_heap_other ?_)) (Nat.le_succ _)
      rintro rfl
      obtain ⟨_, o, ho, hc, _⟩ := own_obj h2 e
      rw [hK] at ho
      cases ho
      cases hc
    · refine h3.trans ?_
      have hD2 : w.heap.size ≤ D := by have := HS0.out; omega
      exact (Below.refl _ W).grown (grownBy_putObj' W D _) h3.size (fun k e => by injection e with e; omega)
theorem collect_any (Bm b nn : Nat) (D0 : DataW Value) (w : World) (hBm : Bm < w.heap.size) (hm : w.cell? ⟨Bm, 0, none⟩ = some (.map (some b))) (hown : w.ownsMap Try.prog 24 tok b nn D0) (hnn : nn ≤ 1000000000000) :
    Calls Try.prog 53 #[.func (.func 54) #[] #[.pointer (some ⟨Bm, 0, none⟩)]] w fun e w' => ∃ v ss, e = .returned v ∧ AllKeys D0 ss ∧ w'.ownsRow w.heap.size 24 1 v ss.length (u32s ss) ∧ Below w.heap.size w w' := by
  have HA := Lib.hid (app_any Bm b nn D0 w hBm hm hown hnn)
  clear hBm hm hown hnn
  go_enter Try.func53, Try.ntmps53
  go_wp2_with (go_at_call 75; refine HA.out.mono ?_; rintro e w1 ⟨v, ss, rfl, hss, ho, hb⟩; obtain ⟨ao1, cap1, ev, _⟩ := own_slice ho; subst ev; have H := Lib.hid (And.intro hss (And.intro ho hb)); clear hss ho hb)
  go_ret
  exact ⟨_, ss, rfl, H.out⟩
theorem keys_any (b : Nat) (w : World) : Calls Try.prog 41 #[.map (some b)] w fun e w' => e = .returned (.func (.func 54) #[] #[.pointer (some ⟨w.heap.size, 0, none⟩)]) ∧ w.alloc (.cells #[.map (some b)] 80) = w' := by
  have hmf : ∀ (fn : Fn) (first cap : Array Value) (w : World), (Instr.makeFunc fn first cap).run Try.prog w = .ok (.func fn first cap) w := fun _ _ _ _ => rfl
  go_enter Try.func41, Try.ntmps41
  go_wp2
  go_ret
  exact ⟨rfl, rfl⟩
end Go.Proofs.Ytgjjfodogkcmmaa.Gh
