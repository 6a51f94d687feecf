/- session: New, Finish, Ask, walked. -/
import Derived.Test.YteikhbfdegmffaaA5
namespace Go.Proofs.Yteikhbfdegmffaa.Se
open Go Go.RowKit
theorem put_put {α : Type} (f : Nat → α) (i : Nat) (x y : α) : put (put f i x) i y = put f i y := by
  funext j
  unfold put
  by_cases h : j = i <;> simp [h]
theorem zero_tab : #[Value.int IntKind.u32 0, .int .i64 0, .int .i64 0, .slice none 0 0, .slice none 0 0, .int .u32 0, .int .u32 0, .int .i64 0, .int .i64 0, .slice none 0 0, .slice none 0 0, .int .u32 0, .int .u32 0, .int .i64 0, .int .i64 0, .slice none 0 0, .slice none 0 0, .int .u32 0, .int .u32 0, .int .i64 0, .int .i64 0, .slice none 0 0, .slice none 0 0, .int .u32 0] = (tabL (fun _ => Sm.zero) (fun _ => Pl.nil)).toArray := by rfl
set_option maxRecDepth 100000 in
theorem new_any (w : World) : Calls Try.prog 6 #[] w fun e w' => e = .returned (.pointer (some ⟨w.heap.size, 0, none⟩)) ∧ TabF w w.heap.size (fun k => k = w.heap.size) (fun _ => Sm.zero) (fun _ => Pl.nil) w' ∧ w'.heap.size = w.heap.size + 1 := by
  go_enter Try.func6, Try.ntmps6
  go_wp2
  go_ret
  refine ⟨rfl, ⟨?_, fun i hi => ⟨AnAt.zero _, ⟨fun _ _ e => by simp [Pl.nil] at e, fun _ _ e => by simp [Pl.nil] at e⟩, ⟨by decide, by decide⟩, by decide, by decide⟩, (Below.refl _ _).alloc (Nat.le_refl _) _, Nat.le_refl _, rfl, fun k hk => by subst hk; simp⟩, by simp⟩
  unfold TabAt
  rw [← zero_tab]
  exact heap_alloc_new _ _
def finE (k : Sm) (seq : Int) : Int := if seq ≤ k.last then 9 else 0
def finK (k : Sm) (seq : Int) (a : An) : Sm := if seq ≤ k.last then k else ⟨seq, a, if k.run ≤ seq then 0 else k.run⟩
theorem TabF.fin {w0 w : World} {b i : Nat} {P : Nat → Prop} {K : Nat → Sm} {F : Nat → Pl} (h : TabF w0 b P K F w) (hi : i < 4) {seq : Int} (s0 : 0 ≤ seq) (s1 : seq ≤ 4294967295) {a : An} {p : Pl} (ha : AnAt w a p) (hp : p.off P) :
    TabF w0 b P (put K i ⟨seq, a, (K i).run⟩) (put F i p) (((((w.setCell ⟨b, i * 6, none⟩ (.int .u32 seq)).setCell ⟨b, i * 6 + 1, none⟩ (.int .i64 a.E)).setCell ⟨b, i * 6 + 1 + 1, none⟩ (.int .i64 a.At)).setCell ⟨b, i * 6 + 1 + 2, none⟩ (.slice p.vo a.V.length p.vc)).setCell ⟨b, i * 6 + 1 + 3, none⟩ (.slice p.lo a.L.length p.lc)) ∧
    Did b w (((((w.setCell ⟨b, i * 6, none⟩ (.int .u32 seq)).setCell ⟨b, i * 6 + 1, none⟩ (.int .i64 a.E)).setCell ⟨b, i * 6 + 1 + 1, none⟩ (.int .i64 a.At)).setCell ⟨b, i * 6 + 1 + 2, none⟩ (.slice p.vo a.V.length p.vc)).setCell ⟨b, i * 6 + 1 + 3, none⟩ (.slice p.lo a.L.length p.lc)) := by
  have ht : Did b w (((((w.setCell ⟨b, i * 6, none⟩ (.int .u32 seq)).setCell ⟨b, i * 6 + 1, none⟩ (.int .i64 a.E)).setCell ⟨b, i * 6 + 1 + 1, none⟩ (.int .i64 a.At)).setCell ⟨b, i * 6 + 1 + 2, none⟩ (.slice p.vo a.V.length p.vc)).setCell ⟨b, i * 6 + 1 + 3, none⟩ (.slice p.lo a.L.length p.lc)) := ((((turned_set _ _ _ _).then (turned_set _ _ _ _)).then (turned_set _ _ _ _)).then (turned_set _ _ _ _)).then (turned_set _ _ _ _)
  refine ⟨⟨?_, fun j hj => ?_, did_below h.low ht h.b0 h.low.size, h.b0, h.pb, fun k hk => Nat.lt_of_lt_of_le (h.pl k hk) ht.size⟩, ht⟩
  · have t0 := h.tab.put1 hi (show 0 < 6 by decide) (.int .u32 seq) ⟨seq, (K i).a, (K i).run⟩ (F i) rfl
    have t1 := t0.put1 hi (show 1 < 6 by decide) (.int .i64 a.E) ⟨seq, { (K i).a with E := a.E }, (K i).run⟩ (F i) (by rw [put_at, put_at]; rfl)
    have t2 := t1.put1 hi (show 2 < 6 by decide) (.int .i64 a.At) ⟨seq, { (K i).a with E := a.E, At := a.At }, (K i).run⟩ (F i) (by rw [put_at, put_at]; rfl)
    have t3 := t2.put1 hi (show 3 < 6 by decide) (.slice p.vo a.V.length p.vc) ⟨seq, { (K i).a with E := a.E, At := a.At, V := a.V }, (K i).run⟩ { F i with vo := p.vo, vc := p.vc } (by rw [put_at, put_at]; rfl)
    have t4 := t3.put1 hi (show 4 < 6 by decide) (.slice p.lo a.L.length p.lc) ⟨seq, a, (K i).run⟩ p (by rw [put_at, put_at]; rfl)
    simp only [put_put, Nat.add_zero] at t4
    exact t4
  · obtain ⟨a1, a2, a3⟩ := h.ans j hj
    by_cases e : j = i
    · subst e
      rw [put_at, put_at]
      exact ⟨ha.on ht (hp.one h.pb), hp, ⟨s0, s1⟩, a3.2⟩
    · rw [put_ne _ _ e, put_ne _ _ e]
      exact ⟨a1.on ht (a2.one h.pb), a2, a3⟩
theorem fin_bad (a : An) (p : Pl) (v : Value) (c seq : Int) (w : World) (h : 4 ≤ c ∨ seq = 0) : Calls Try.prog 8 #[v, .int .u8 c, .int .u32 seq, a.val p] w fun e w' => e = .returned (.int .i64 1) ∧ Below w.heap.size w w' := by
  have hr := req_bad v c seq (w.alloc (.cells #[.int .i64 a.E, .int .i64 a.At, .slice p.vo a.V.length p.vc, .slice p.lo a.L.length p.lc] 28)) h
  clear h
  unfold An.val
  go_enter Try.func8, Try.ntmps8
  go_wp2_with (go_at_call 14; refine hr.mono ?_; rintro e w1 ⟨rfl, rfl⟩)
  go_ret
  exact ⟨rfl, (Below.refl _ _).alloc (Nat.le_refl _) _⟩
set_option maxRecDepth 100000 in
set_option maxHeartbeats 1000000 in
theorem fin_ok {w0 w : World} {b i : Nat} {P : Nat → Prop} {K : Nat → Sm} (h : TabS w0 b P K w) (hi : i < 4) {seq : Int} (s0 : 0 < seq) (s1 : seq ≤ 4294967295) {a : An} {p : Pl} (ha : AnAt w a p) :
    Calls Try.prog 8 #[.pointer (some ⟨b, 0, none⟩), .int .u8 i, .int .u32 seq, a.val p] w fun e w' => e = .returned (.int .i64 (finE (K i) seq)) ∧ TabS w0 b P (put K i (finK (K i) seq a)) w' ∧ Did b w w' := by
  obtain ⟨F, h⟩ := h
  obtain ⟨W, hW⟩ : ∃ W, w.alloc (.cells #[.int .i64 a.E, .int .i64 a.At, .slice p.vo a.V.length p.vc, .slice p.lo a.L.length p.lc] 28) = W := ⟨_, rfl⟩
  have hb : Below w.heap.size w W := by rw [← hW]; exact (Below.refl _ _).alloc (Nat.le_refl _) _
  have hW1 := h.below hb
  have hr := req_ok b i seq W hi (by omega)
  obtain ⟨c0, _, _, _, _, c5⟩ := hW1.cells hi
  by_cases q1 : seq ≤ (K i).last
  · have e1 : finE (K i) seq = 9 := by unfold finE; rw [if_pos q1]
    have e2 : finK (K i) seq a = K i := by unfold finK; rw [if_pos q1]
    rw [e1, e2, put_same]
    have H := Lib.hid (And.intro hW1 hb)
    clear e1 e2 h hi s0 s1 ha hb hW1
    unfold An.val
    go_enter Try.func8, Try.ntmps8
    go_wp2_with (go_at_call 14; refine hr.mono ?_; rintro e w1 ⟨rfl, rfl⟩)
    go_ret
    exact ⟨rfl, ⟨F, H.out.1⟩, below_any H.out.2⟩
  · have e1 : finE (K i) seq = 0 := by unfold finE; rw [if_neg q1]
    have e2 : finK (K i) seq a = ⟨seq, a, if (K i).run ≤ seq then 0 else (K i).run⟩ := by unfold finK; rw [if_neg q1]
    rw [e1, e2]
    have HO := Lib.hid (own_any a p W (ha.below hb))
    have HW := Lib.hid (And.intro hW1 (And.intro hb (And.intro hi (And.intro s0 s1))))
    have hz : W.heap[w.heap.size]? = some (.cells #[.int .i64 a.E, .int .i64 a.At, .slice p.vo a.V.length p.vc, .slice p.lo a.L.length p.lc] 28 (0, 0)) := by rw [← hW]; exact heap_alloc_new _ _
    obtain ⟨z0, z1, z2, z3⟩ := cells4 hz
    clear e1 e2 h ha hb hW1 hz
    unfold An.val
    go_enter Try.func8, Try.ntmps8
    go_wp2_with (go_at_call 14; refine hr.mono ?_; rintro e w1 ⟨rfl, rfl⟩)
    refine HO.out.mono ?_
    rintro e w1 ⟨p', rfl, ha', hp', hb'⟩
    have h1 := HW.out.1.below hb'
    obtain ⟨d0, d1, d2, d3, d4, d5⟩ := h1.cells HW.out.2.2.1
    have fz := h1.tab.free
    obtain ⟨hfin, hdid⟩ := h1.fin HW.out.2.2.1 (Int.le_of_lt HW.out.2.2.2.1) HW.out.2.2.2.2 ha' ⟨fun k o e hk => hp'.1 k o e (HW.out.1.pl k hk), fun k o e hk => hp'.2 k o e (HW.out.1.pl k hk)⟩
    obtain ⟨x0, x1, x2, x3, x4, x5⟩ := hfin.cells HW.out.2.2.1
    have xf := hfin.tab.free (i * 6 + 5)
    rw [put_at] at x5
    simp only at x5
    have HF := Lib.hid (And.intro hfin (((below_any HW.out.2.1 : Did b w W).then (below_any hb')).then hdid))
    clear ha' hp' hb' h1 hfin hdid x0 x1 x2 x3 x4
    unfold An.val
    go_upto_region 7 with fail
    generalize (((((w1.setCell ⟨b, i * 6, none⟩ (.int .u32 seq)).setCell ⟨b, i * 6 + 1, none⟩ (.int .i64 a.E)).setCell ⟨b, i * 6 + 1 + 1, none⟩ (.int .i64 a.At)).setCell ⟨b, i * 6 + 1 + 2, none⟩ (.slice p'.vo a.V.length p'.vc)).setCell ⟨b, i * 6 + 1 + 3, none⟩ (.slice p'.lo a.L.length p'.lc)) = W5 at HF x5 xf ⊢
    clear d0 d1 d2 d3 d4 d5 fz c0 c5 z0 z1 z2 z3 hr q1 s0 s1 hi
    by_cases q2 : (K i).run ≤ seq
    · have HR := Lib.hid (HF.out.1.run HW.out.2.2.1 (r := 0) (by decide) (by decide))
      have HQ := Lib.hid q2
      go_wp2_with fail
      go_ret
      have h := HR.out.1
      simp only [put_put, put_at] at h
      exact ⟨rfl, ⟨_, by first | exact h | (rw [if_pos HQ.out]; exact h)⟩, HF.out.2.then HR.out.2⟩
    · have HQ := Lib.hid q2
      go_wp2_with fail
      go_ret
      exact ⟨rfl, ⟨_, by first | exact HF.out.1 | (rw [if_neg HQ.out]; exact HF.out.1)⟩, HF.out.2⟩
end Go.Proofs.Yteikhbfdegmffaa.Se
