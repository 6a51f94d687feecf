/- commit: Commit, walked. -/
import Derived.Test.YtklalpamcfkngaaA7
namespace Go.Proofs.Ytklalpamcfkngaa.Cm
open Go Go.RowKit
theorem drewN_below (w : World) (n : Nat) : Below w.heap.size w (w.drewN n) := ⟨rfl, rfl, rfl, Nat.le_refl _, fun _ _ => rfl⟩
theorem set_block {w : World} {b i : Nat} {cs : Array Value} {t : TypeId} {v : Value} (h : w.heap[b]? = some (.cells cs t (0, 0))) : (w.setCell ⟨b, i, none⟩ v).heap[b]? = some (.cells (cs.setIfInBounds i v) t (0, 0)) := by
  rw [setCell_eq_setRow w b i cs t (0, 0) v h, setRow_heap w b cs _ t (0, 0) h]
def putR (R : TK → Option (Nat × RunM)) (t : TK) (r : Nat × RunM) : TK → Option (Nat × RunM) := fun k => if k = t then some r else R k
section
variable {w w' : World} {B n p a b : Nat} {F : Nat → Prop} {R : TK → Option (Nat × RunM)} {RM : TK → Option RunM} {T : TK → Option Int} {t : TK}
/-- A run's own block is written over. -/
theorem book_run (h : BookAt w B n F p a b R T) (ht : InK t) {g : Nat} {m m' : RunM} (hR : R t = some (g, m)) (hw : Turned (fun k => k = g) w w') (hm : w'.heap[g]? = some (.cells (runCells m') 77 (0, 0))) :
    BookAt w' B n F p a b (putR R t (g, m')) T := by
  have hg := h.each t _ ht hR
  obtain ⟨_, _, ha⟩ := map_block h.runs
  obtain ⟨_, _, hb⟩ := map_block h.takes
  have pg : p ≠ g := fun e => by
    have := h.cell
    rw [e, hg.1] at this
    cases this
  have ag : a ≠ g := fun e => by
    rw [e, hg.1] at ha
    cases ha
  have bg : b ≠ g := fun e => by
    rw [e, hg.1] at hb
    cases hb
  have pv : ptrV (putR R t (g, m')) = ptrV R := by
    funext k
    unfold ptrV putR
    by_cases e : k = t
    · subst e; simp [hR]
    · simp [e]
  refine ⟨(hw.block p (h.hi p h.fp) pg).trans h.cell, by rw [pv]; exact h.runs.on hw ag, h.takes.on hw bg, h.ab, fun k r hk hr => ?_, fun k k' r r' hk hk' hr hr' e => ?_, Nat.le_trans h.base hw.size, h.fp, h.fa, h.fb, fun k hk => Nat.lt_of_lt_of_le (h.hi k hk) hw.size, h.low⟩
  · by_cases e : k = t
    · subst e
      simp [putR] at hr
      subst hr
      exact ⟨hm, hg.2⟩
    · simp [putR, e] at hr
      have h1 := h.each k r hk hr
      refine ⟨(hw.block r.1 (h.hi _ h1.2) (fun e2 => e (h.inj k t r (g, m) hk ht hr hR e2))).trans h1.1, h1.2⟩
  · by_cases e1 : k = t <;> by_cases e2 : k' = t
    · rw [e1, e2]
    · subst e1
      simp [putR] at hr
      simp [putR, e2] at hr'
      subst hr
      exact h.inj k k' (g, m) r' hk hk' hR hr' e
    · subst e2
      simp [putR] at hr'
      simp [putR, e1] at hr
      subst hr'
      exact h.inj k k' r (g, m) hk hk' hr hR e
    · simp [putR, e1] at hr
      simp [putR, e2] at hr'
      exact h.inj k k' r r' hk hk' hr hr' e
theorem putR_map (hRM : ∀ k, InK k → (R k).map (·.2) = RM k) (g : Nat) (m : RunM) : ∀ k, InK k → (putR R t (g, m) k).map (·.2) = updR RM t m k := fun k hk => by
  unfold putR updR
  by_cases e : k = t
  · simp [e]
  · simp [e, hRM k hk]
/-- What is left of a book when a run's block has been written over, behind a call's own new blocks. -/
theorem did_run {w1 : World} (h : BookAt w1 B n F p a b R T) (hRM : ∀ k, InK k → (R k).map (·.2) = RM k) (ht : InK t) {g : Nat} {m m' : RunM} (hR : R t = some (g, m)) (hb : Below w.heap.size w w1) (hw : Turned (fun k => k = g) w1 w') (hm : w'.heap[g]? = some (.cells (runCells m') 77 (0, 0))) :
    Did w B n F p (updR RM t m') T w' :=
  ⟨F, ⟨a, b, _, book_run h ht hR hw hm, putR_map hRM g m'⟩, fun _ h => .inl h, (below_any (G := F) hb).then (hw.mono (fun k e => by rw [e]; exact (h.each t _ ht hR).2))⟩
end
theorem commit_nil (t : TK) (w : World) : Calls Try.prog 14 #[.pointer none, .agg #[.int .u8 t.1, .int .u32 t.2.1, .int .u32 t.2.2]] w fun e w' => e = .returned (.int .i64 6) ∧ Below w.heap.size w w' := by
  have hb0 := Lib.hid ((Below.refl _ w).alloc (Nat.le_refl _) (.cells #[.int .u8 t.1, .int .u32 t.2.1, .int .u32 t.2.2] 33))
  go_enter Try.func14, Try.ntmps14
  go_wp2_with (go_at_call 34; refine (find_nil t _).mono ?_; rintro e w1 ⟨rfl, hb⟩; have H1 := Lib.hid (hb0.out.trans (hb.mono hb0.out.size)); clear hb)
  go_ret
  exact ⟨rfl, H1.out⟩
section
variable {w : World} {B n p a b : Nat} {F : Nat → Prop} {R : TK → Option (Nat × RunM)} {RM : TK → Option RunM} {T : TK → Option Int} {t : TK}
theorem commit_none (h : BookAt w B n F p a b R T) (ht : InK t) (hR : R t = none) :
    Calls Try.prog 14 #[.pointer (some ⟨p, 0, none⟩), .agg #[.int .u8 t.1, .int .u32 t.2.1, .int .u32 t.2.2]] w fun e w' => e = .returned (.int .i64 6) ∧ Below w.heap.size w w' := by
  have hb0 := Lib.hid ((Below.refl _ w).alloc (Nat.le_refl _) (.cells #[.int .u8 t.1, .int .u32 t.2.1, .int .u32 t.2.2] 33))
  have H1 := Lib.hid (h.below hb0.out)
  have HR := Lib.hid hR
  clear h hR
  go_enter Try.func14, Try.ntmps14
  go_wp2_with (go_at_call 34; refine (find_none H1.out ht HR.out).mono ?_; rintro e w1 ⟨rfl, hb⟩; have H2 := Lib.hid (hb0.out.trans (hb.mono hb0.out.size)); clear hb)
  go_ret
  exact ⟨rfl, H2.out⟩
theorem commit_no (h : BookAt w B n F p a b R T) (ht : InK t) {g : Nat} {m : RunM} (hR : R t = some (g, m)) (hs : m.s = 4 ∨ eq4 m.v m.n = false) :
    Calls Try.prog 14 #[.pointer (some ⟨p, 0, none⟩), .agg #[.int .u8 t.1, .int .u32 t.2.1, .int .u32 t.2.2]] w fun e w' => e = .returned (.int .i64 9) ∧ Below w.heap.size w w' := by
  have hb0 := Lib.hid ((Below.refl _ w).alloc (Nat.le_refl _) (.cells #[.int .u8 t.1, .int .u32 t.2.1, .int .u32 t.2.2] 33))
  have H1 := Lib.hid (h.below hb0.out)
  have HR := Lib.hid hR
  clear h hR
  unfold eq4 at hs
  have hg := guard75
  have hn := neq75
  by_cases h4 : m.s = 4
  · have e4 : (m.s == 4) = true := by simpa using h4
    clear h4 hs
    generalize hms : m.s = s at *
    have HS := Lib.hid hms
    clear hms
    go_enter Try.func14, Try.ntmps14
    go_wp2_with (go_at_call 34; refine (find_some H1.out ht HR.out).mono ?_; rintro e w1 ⟨rfl, hb⟩; have H2 := Lib.hid (hb0.out.trans (hb.mono hb0.out.size)); obtain ⟨⟨n0, n1, n2, n3⟩, ⟨v0, v1, v2, v3⟩, _, c12, _⟩ := run_cells ((H1.out.below hb).each t _ ht HR.out).1; rw [HS.out] at c12; clear hb)
    go_quiet (fail)
    go_wp2
    go_ret
    exact ⟨rfl, H2.out.trans ((drewN_below w1 nq).mono H2.out.size)⟩
  · have e4 : (m.s == 4) = false := by simpa using h4
    have h5 : (!(m.v 0 == m.n 0 && (m.v 1 == m.n 1 && (m.v 2 == m.n 2 && m.v 3 == m.n 3)))) = true := by
      rcases hs with hs | hs
      · exact absurd hs h4
      · rw [hs]; rfl
    clear h4 hs
    generalize hms : m.s = s at *
    have HS := Lib.hid hms
    clear hms
    go_enter Try.func14, Try.ntmps14
    go_wp2_with (go_at_call 34; refine (find_some H1.out ht HR.out).mono ?_; rintro e w1 ⟨rfl, hb⟩; have H2 := Lib.hid (hb0.out.trans (hb.mono hb0.out.size)); obtain ⟨⟨n0, n1, n2, n3⟩, ⟨v0, v1, v2, v3⟩, _, c12, _⟩ := run_cells ((H1.out.below hb).each t _ ht HR.out).1; rw [HS.out] at c12; clear hb)
    go_quiet (fail)
    go_wp2
    go_ret
    exact ⟨rfl, H2.out.trans ((drewN_below w1 nq).mono H2.out.size)⟩
theorem commit_yes (h : BookAt w B n F p a b R T) (hRM : ∀ k, InK k → (R k).map (·.2) = RM k) (ht : InK t) {g : Nat} {m : RunM} (hR : R t = some (g, m)) (h4 : m.s ≠ 4) (hs : eq4 m.v m.n = true) :
    Calls Try.prog 14 #[.pointer (some ⟨p, 0, none⟩), .agg #[.int .u8 t.1, .int .u32 t.2.1, .int .u32 t.2.2]] w fun e w' => e = .returned (.int .i64 0) ∧ Did w B n F p (updR RM t { m with s := 3 }) T w' := by
  have hb0 := Lib.hid ((Below.refl _ w).alloc (Nat.le_refl _) (.cells #[.int .u8 t.1, .int .u32 t.2.1, .int .u32 t.2.2] 33))
  have H1 := Lib.hid (h.below hb0.out)
  have HR := Lib.hid hR
  have HRM := Lib.hid hRM
  clear h hR hRM
  unfold eq4 at hs
  have hg := guard75
  have hn := neq75
  have e4 : (m.s == 4) = false := by simpa using h4
  have h5 : (!(m.v 0 == m.n 0 && (m.v 1 == m.n 1 && (m.v 2 == m.n 2 && m.v 3 == m.n 3)))) = false := by rw [hs]; rfl
  clear h4 hs
  generalize hms : m.s = s at *
  have HS := Lib.hid hms
  clear hms
  go_enter Try.func14, Try.ntmps14
  go_wp2_with (go_at_call 34; refine (find_some H1.out ht HR.out).mono ?_; rintro e w1 ⟨rfl, hb⟩; have H2 := Lib.hid (hb0.out.trans (hb.mono hb0.out.size)); obtain ⟨⟨n0, n1, n2, n3⟩, ⟨v0, v1, v2, v3⟩, _, c12, fz⟩ := run_cells ((H1.out.below hb).each t _ ht HR.out).1; rw [HS.out] at c12; have H3 := Lib.hid (H1.out.below hb); clear hb)
  go_quiet (fail)
  have f12 := fz 12
  clear fz
  go_wp2
  go_ret
  refine ⟨rfl, ?_⟩
  have h3 := H3.out.on (turned_drewN (fun _ => False) w1 nq) (fun _ _ => id)
  refine did_run (w1 := w1.drewN nq) h3 HRM.out ht HR.out (H2.out.trans ((drewN_below w1 nq).mono H2.out.size)) (turned_set _ g 12 (.int .i64 3)) ?_
  exact set_block (h3.each t _ ht HR.out).1
end
end Go.Proofs.Ytklalpamcfkngaa.Cm
