/- session: Ask, walked. -/
import Derived.Test.YteikhbfdegmffaaA6
namespace Go.Proofs.Yteikhbfdegmffaa.Se
open Go Go.RowKit
theorem res3 {fn : Func} {p q r : Tmp} (h : fn.results = #[.tmp p, .cell q 28, .tmp r]) (tmps : Array Value) (w : World) (g : Nat) (cs : Array Value) (x z : Value) (hp : tmps.getD p undef = x) (hq : tmps.getD q undef = .pointer (some ⟨g, 0, none⟩)) (hr : tmps.getD r undef = z) (hg : w.heap[g]? = some (.cells cs 28 (0, 0))) (hs : cs.size = 4) :
    (results fn tmps).run Try.prog w = .ok (.tuple #[x, .agg cs, z]) w := by
  have hp' : tmps[p]?.getD undef = x := by simpa using hp
  have hq' : tmps[q]?.getD undef = .pointer (some ⟨g, 0, none⟩) := by simpa using hq
  have hr' : tmps[r]?.getD undef = z := by simpa using hr
  simp [results, h, hp', hq', hr', asAddr, run_loadVar_row w g 28 28 cs (0, 0) _ hg Try.underlying28 rfl (by rw [size28, hs])]
/-- What Ask answers: what it is, the answer, the error. -/
def askR (k : Sm) (seq : Int) : Int × An × Int := if farB k.last seq = true then (0, .zero, 4) else if seq < k.last then (0, .zero, 15) else if seq = k.last then (2, k.a, 0) else if seq = k.run then (1, .zero, 0) else (0, .zero, 0)
def AskOf (x z : Value) (a : An) (w : World) (e : Ending) (w' : World) : Prop := ∃ p, e = .returned (.tuple #[x, a.val p, z]) ∧ AnAt w' a p ∧ Below w.heap.size w w'
def zeroB : Obj := .cells #[.int .i64 0, .int .i64 0, .slice none 0 0, .slice none 0 0] 28
theorem zero_end {w w' : World} (hb : Below w.heap.size w w') (x z : Value) : AskOf x z .zero w (.returned (.tuple #[x, .agg #[.int .i64 0, .int .i64 0, .slice none 0 0, .slice none 0 0], z])) w' :=
  ⟨Pl.nil, rfl, AnAt.zero _, hb⟩
theorem ask_bad (v : Value) (c seq : Int) (w : World) (h : 4 ≤ c ∨ seq = 0) : Calls Try.prog 10 #[v, .int .u8 c, .int .u32 seq] w (AskOf (.int .i64 0) (.int .i64 1) .zero w) := by
  have hr := req_bad v c seq (w.alloc zeroB) h
  unfold zeroB at hr
  clear h
  go_enter Try.func10, Try.ntmps10
  go_wp2_with (go_at_call 14; refine hr.mono ?_; rintro e w1 ⟨rfl, rfl⟩)
  exact bodyPost_ret (res3 rfl _ _ w.heap.size _ (.int .i64 0) (.int .i64 1) rfl rfl rfl (heap_alloc_new _ _) rfl) rfl (zero_end ((Below.refl _ _).alloc (Nat.le_refl _) _) _ _)
set_option maxRecDepth 100000 in
set_option maxHeartbeats 2000000 in
theorem ask_ok {w0 w : World} {b i : Nat} {P : Nat → Prop} {K : Nat → Sm} (h : TabS w0 b P K w) (hi : i < 4) {seq : Int} (s0 : 0 < seq) (s1 : seq ≤ 4294967295) :
    Calls Try.prog 10 #[.pointer (some ⟨b, 0, none⟩), .int .u8 i, .int .u32 seq] w (AskOf (.int .i64 (askR (K i) seq).1) (.int .i64 (askR (K i) seq).2.2) (askR (K i) seq).2.1 w) := by
  obtain ⟨F, h⟩ := h
  have hb : Below w.heap.size w (w.alloc zeroB) := (Below.refl _ _).alloc (Nat.le_refl _) _
  have hW := h.below hb
  obtain ⟨c0, c1, c2, c3, c4, c5⟩ := hW.cells hi
  obtain ⟨ha, _, ⟨k0, k1⟩, k2, k3⟩ := hW.ans i hi
  have hr := req_ok b i seq (w.alloc zeroB) hi (by omega)
  have hf := far_any c0 seq k0 k1 (by omega) s1
  have HB := Lib.hid hb
  have z0 := heap_alloc_new w zeroB
  unfold zeroB at hb hW c0 c1 c2 c3 c4 c5 ha hr hf z0
  by_cases q1 : farB (K i).last seq = true
  · have e1 : askR (K i) seq = (0, .zero, 4) := by unfold askR; rw [if_pos q1]
    rw [e1]
    rw [q1] at hf
    clear e1 q1 h hi k0 k1 k2 k3 s0 s1 hb hW ha c1 c2 c3 c4 z0
    go_enter Try.func10, Try.ntmps10
    go_wp2_with (first | (go_at_call 14; refine hr.mono ?_; rintro e w1 ⟨rfl, rfl⟩) | (go_at_call 15; refine hf.mono ?_; rintro e w1 ⟨rfl, rfl⟩))
    exact bodyPost_ret (res3 rfl _ _ w.heap.size _ _ _ rfl rfl rfl (heap_alloc_new _ _) rfl) rfl (zero_end HB.out _ _)
  · rw [Bool.not_eq_true] at q1
    rw [q1] at hf
    by_cases q2 : seq < (K i).last
    · have e1 : askR (K i) seq = (0, .zero, 15) := by unfold askR; rw [q1, if_neg (by decide), if_pos q2]
      rw [e1]
      clear e1 q1 h hi k0 k1 k2 k3 s0 s1 hb hW ha c1 c2 c3 c4 z0
      go_enter Try.func10, Try.ntmps10
      go_wp2_with (first | (go_at_call 14; refine hr.mono ?_; rintro e w1 ⟨rfl, rfl⟩) | (go_at_call 15; refine hf.mono ?_; rintro e w1 ⟨rfl, rfl⟩))
      exact bodyPost_ret (res3 rfl _ _ w.heap.size _ _ _ rfl rfl rfl (heap_alloc_new _ _) rfl) rfl (zero_end HB.out _ _)
    · by_cases q3 : seq = (K i).last
      · have e1 : askR (K i) seq = (2, (K i).a, 0) := by unfold askR; rw [q1, if_neg (by decide), if_neg q2, if_pos q3]
        rw [e1]
        have q3' : (seq == (K i).last) = true := by simpa using q3
        have HO := Lib.hid (own_any _ _ _ ha)
        have HZ := Lib.hid z0
        have d2 : (w.alloc (.cells #[.int .i64 0, .int .i64 0, .slice none 0 0, .slice none 0 0] 28)).cell? ⟨b, i * 6 + 1 + 1, none⟩ = some (.int .i64 (K i).a.At) := c2
        have d3 : (w.alloc (.cells #[.int .i64 0, .int .i64 0, .slice none 0 0, .slice none 0 0] 28)).cell? ⟨b, i * 6 + 1 + 2, none⟩ = some (.slice (F i).vo (K i).a.V.length (F i).vc) := c3
        have d4 : (w.alloc (.cells #[.int .i64 0, .int .i64 0, .slice none 0 0, .slice none 0 0] 28)).cell? ⟨b, i * 6 + 1 + 3, none⟩ = some (.slice (F i).lo (K i).a.L.length (F i).lc) := c4
        have q2' : decide (seq < (K i).last) = false := decide_eq_false q2
        clear e1 q1 h hi k0 k1 k2 k3 s0 s1 hb hW ha z0 c2 c3 c4 q3 q2
        go_enter Try.func10, Try.ntmps10
        go_wp2_with (first | (go_at_call 14; refine hr.mono ?_; rintro e w1 ⟨rfl, rfl⟩) | (go_at_call 15; refine hf.mono ?_; rintro e w1 ⟨rfl, rfl⟩))
        refine HO.out.mono ?_
        rintro e w1 ⟨p', rfl, ha', hp', hb'⟩
        have hz1 := (hb'.block w.heap.size (by simp)).trans HZ.out
        obtain ⟨y0, f0, y1, f1, y2, f2, y3, f3, hend⟩ := four (.int .i64 (K i).a.E) (.int .i64 (K i).a.At) (.slice p'.vo (K i).a.V.length p'.vc) (.slice p'.lo (K i).a.L.length p'.lc) hz1
        have g4 := grown4 w1 w.heap.size (.int .i64 (K i).a.E) (.int .i64 (K i).a.At) (.slice p'.vo (K i).a.V.length p'.vc) (.slice p'.lo (K i).a.L.length p'.lc)
        have HE := Lib.hid (And.intro hend (And.intro (ha'.on (Turned.of_grown g4 (G := fun k => k = w.heap.size) (fun k e => (Option.some.inj e).symm)) ⟨fun k o e h0 => hp'.1 k o e (by simp; omega), fun k o e h0 => hp'.2 k o e (by simp; omega)⟩) ((HB.out.trans (hb'.mono (by simp))).grown g4 (HB.out.trans (hb'.mono (by simp))).size (fun k e => by have := Option.some.inj e; omega))))
        clear ha' hp' hb' hz1 hend g4
        unfold An.val
        go_wp2_with fail
        exact bodyPost_ret (res3 rfl _ _ w.heap.size _ _ _ rfl rfl rfl HE.out.1 rfl) rfl ⟨p', rfl, HE.out.2.1, HE.out.2.2⟩
      · have q3' : (seq == (K i).last) = false := by simpa using q3
        have q2' : decide (seq < (K i).last) = false := decide_eq_false q2
        by_cases q4 : seq = (K i).run
        · have e1 : askR (K i) seq = (1, .zero, 0) := by unfold askR; rw [q1, if_neg (by decide), if_neg q2, if_neg q3, if_pos q4]
          rw [e1]
          have q4' : (seq == (K i).run) = true := by simpa using q4
          clear e1 q1 h hi k0 k1 k2 k3 s0 s1 hb hW ha c1 c2 c3 c4 z0 q2 q3 q4
          go_enter Try.func10, Try.ntmps10
          go_wp2_with (first | (go_at_call 14; refine hr.mono ?_; rintro e w1 ⟨rfl, rfl⟩) | (go_at_call 15; refine hf.mono ?_; rintro e w1 ⟨rfl, rfl⟩))
          exact bodyPost_ret (res3 rfl _ _ w.heap.size _ _ _ rfl rfl rfl (heap_alloc_new _ _) rfl) rfl (zero_end HB.out _ _)
        · have e1 : askR (K i) seq = (0, .zero, 0) := by unfold askR; rw [q1, if_neg (by decide), if_neg q2, if_neg q3, if_neg q4]
          rw [e1]
          have q4' : (seq == (K i).run) = false := by simpa using q4
          clear e1 q1 h hi k0 k1 k2 k3 s0 s1 hb hW ha c1 c2 c3 c4 z0 q2 q3 q4
          go_enter Try.func10, Try.ntmps10
          go_wp2_with (first | (go_at_call 14; refine hr.mono ?_; rintro e w1 ⟨rfl, rfl⟩) | (go_at_call 15; refine hf.mono ?_; rintro e w1 ⟨rfl, rfl⟩))
          exact bodyPost_ret (res3 rfl _ _ w.heap.size _ _ _ rfl rfl rfl (heap_alloc_new _ _) rfl) rfl (zero_end HB.out _ _)
/-- Five cells of a client. -/
def FiveC (b o : Nat) (k : Sm) (p : Pl) (w : World) : Prop := w.cell? ⟨b, o, none⟩ = some (.int .u32 k.last) ∧ w.cell? ⟨b, o + 1, none⟩ = some (.int .i64 k.a.E) ∧ w.cell? ⟨b, o + 1 + 1, none⟩ = some (.int .i64 k.a.At) ∧ w.cell? ⟨b, o + 1 + 2, none⟩ = some (.slice p.vo k.a.V.length p.vc) ∧ w.cell? ⟨b, o + 1 + 3, none⟩ = some (.slice p.lo k.a.L.length p.lc)
theorem FiveC.below {b o B : Nat} {k : Sm} {p : Pl} {w w' : World} (h : FiveC b o k p w) (hb : Below B w w') (hB : b < B) : FiveC b o k p w' :=
  ⟨(hb.cell (p := ⟨b, o, none⟩) hB).trans h.1, (hb.cell (p := ⟨b, o + 1, none⟩) hB).trans h.2.1, (hb.cell (p := ⟨b, o + 1 + 1, none⟩) hB).trans h.2.2.1, (hb.cell (p := ⟨b, o + 1 + 2, none⟩) hB).trans h.2.2.2.1, (hb.cell (p := ⟨b, o + 1 + 3, none⟩) hB).trans h.2.2.2.2⟩
theorem FiveC.far {b o z : Nat} {k : Sm} {p : Pl} {w : World} {u0 u1 u2 u3 : Value} (h : FiveC b o k p w) (hz : b ≠ z) : FiveC b o k p ((((w.setCell ⟨z, 0, none⟩ u0).setCell ⟨z, 1, none⟩ u1).setCell ⟨z, 2, none⟩ u2).setCell ⟨z, 3, none⟩ u3) := by
  have g4 := grown4 w z u0 u1 u2 u3
  have hl : b < w.heap.size := World.block_lt_of_cell? w _ h.1
  have hb := g4.block b hl (by simp [hz])
  unfold FiveC World.cell? at *
  simp only [hb]
  exact h
theorem last_bad (v : Value) (c : Int) (w : World) (h : 4 ≤ c) : Calls Try.prog 13 #[v, .int .u8 c] w (AskOf (.int .u32 0) (.int .i64 1) .zero w) := by
  have hr := find_bad v c (w.alloc zeroB) h
  unfold zeroB at hr
  clear h
  go_enter Try.func13, Try.ntmps13
  go_wp2_with (go_at_call 19; refine hr.mono ?_; rintro e w1 ⟨rfl, rfl⟩)
  exact bodyPost_ret (res3 rfl _ _ w.heap.size _ (.int .u32 0) (.int .i64 1) rfl rfl rfl (heap_alloc_new _ _) rfl) rfl (zero_end ((Below.refl _ _).alloc (Nat.le_refl _) _) _ _)
set_option maxRecDepth 100000 in
set_option maxHeartbeats 2000000 in
theorem last_ok {w0 w : World} {b i : Nat} {P : Nat → Prop} {K : Nat → Sm} (h : TabS w0 b P K w) (hi : i < 4) :
    Calls Try.prog 13 #[.pointer (some ⟨b, 0, none⟩), .int .u8 i] w (AskOf (.int .u32 (K i).last) (.int .i64 0) (K i).a w) := by
  obtain ⟨F, h⟩ := h
  have hb : Below w.heap.size w (w.alloc zeroB) := (Below.refl _ _).alloc (Nat.le_refl _) _
  have hW := h.below hb
  obtain ⟨c0, c1, c2, c3, c4, _⟩ := hW.cells hi
  obtain ⟨ha, _, _⟩ := hW.ans i hi
  have hr := find_ok b i (w.alloc zeroB) hi
  have HB := Lib.hid hb
  have z0 := heap_alloc_new w zeroB
  have hbl := h.tab.lt
  unfold zeroB at hb hW c0 c1 c2 c3 c4 ha hr z0
  have HA := Lib.hid ha
  have HZ := Lib.hid z0
  have cs : FiveC b (i * 6) (K i) (F i) (w.alloc (.cells #[.int .i64 0, .int .i64 0, .slice none 0 0, .slice none 0 0] 28)) := ⟨c0, c1, c2, c3, c4⟩
  have hbz : b < (w.alloc (.cells #[.int .i64 0, .int .i64 0, .slice none 0 0, .slice none 0 0] 28)).heap.size := by simp; omega
  have hne : b ≠ w.heap.size := by omega
  have d2 : (w.alloc (.cells #[.int .i64 0, .int .i64 0, .slice none 0 0, .slice none 0 0] 28)).cell? ⟨b, i * 6 + 1 + 1, none⟩ = some (.int .i64 (K i).a.At) := c2
  have d3 : (w.alloc (.cells #[.int .i64 0, .int .i64 0, .slice none 0 0, .slice none 0 0] 28)).cell? ⟨b, i * 6 + 1 + 2, none⟩ = some (.slice (F i).vo (K i).a.V.length (F i).vc) := c3
  have d4 : (w.alloc (.cells #[.int .i64 0, .int .i64 0, .slice none 0 0, .slice none 0 0] 28)).cell? ⟨b, i * 6 + 1 + 3, none⟩ = some (.slice (F i).lo (K i).a.L.length (F i).lc) := c4
  clear hi hb hW ha z0 c2 c3 c4 h
  go_enter Try.func13, Try.ntmps13
  go_wp2_with (first | (go_at_call 19; refine hr.mono ?_; rintro e w1 ⟨rfl, rfl⟩))
  go_region_held3 (fun w' => w'.cell? ⟨b, i * 6, none⟩ = some (.int .u32 (K i).last) ∧ w'.cell? ⟨b, i * 6 + 1, none⟩ = some (.int .i64 (K i).a.E) ∧ w'.cell? ⟨b, i * 6 + 1 + 1, none⟩ = some (.int .i64 (K i).a.At) ∧ w'.cell? ⟨b, i * 6 + 1 + 2, none⟩ = some (.slice (F i).vo (K i).a.V.length (F i).vc) ∧ w'.cell? ⟨b, i * 6 + 1 + 3, none⟩ = some (.slice (F i).lo (K i).a.L.length (F i).lc))
    (first | exact ⟨c0, c1, d2, d3, d4⟩ | exact U1 | exact U1.far (fun e => hne e))
    (first | (go_at_call 16; refine (own_any _ _ _ (HA.out.below ((Below.refl _ _).drew))).mono ?_; rintro e w1 ⟨p', rfl, ha', hp', hb'⟩; have U1 := FiveC.below cs (((Below.refl _ _).drew).trans hb') hbz; have hz1 := (hb'.block w.heap.size (by simp)).trans HZ.out; obtain ⟨y0, f0, y1, f1, y2, f2, y3, f3, hend⟩ := four (.int .i64 (K i).a.E) (.int .i64 (K i).a.At) (.slice p'.vo (K i).a.V.length p'.vc) (.slice p'.lo (K i).a.L.length p'.lc) hz1; have HE := Lib.hid hend; have HP := Lib.hid (And.intro ha' (And.intro hp' hb')); clear hz1 hend ha' hp'; unfold An.val))
  all_goals (
    have g4 := grown4 w1 w.heap.size (.int .i64 (K i).a.E) (.int .i64 (K i).a.At) (.slice p'.vo (K i).a.V.length p'.vc) (.slice p'.lo (K i).a.L.length p'.lc)
    have hbw : Below w.heap.size w w1 := HB.out.trans (((Below.refl _ _).drew.trans HP.out.2.2).mono (by simp))
    have HF := Lib.hid (And.intro (HP.out.1.on (Turned.of_grown g4 (G := fun k => k = w.heap.size) (fun k e => (Option.some.inj e).symm)) ⟨fun k o e h0 => HP.out.2.1.1 k o e (by simp; omega), fun k o e h0 => HP.out.2.1.2 k o e (by simp; omega)⟩) (hbw.grown g4 hbw.size (fun k e => by have := Option.some.inj e; omega)))
    clear g4 hbw
    go_wp2_with fail
    exact bodyPost_ret (res3 rfl _ _ w.heap.size _ _ _ rfl rfl rfl HE.out rfl) rfl ⟨p', rfl, HF.out.1, HF.out.2⟩)
end Go.Proofs.Yteikhbfdegmffaa.Se
