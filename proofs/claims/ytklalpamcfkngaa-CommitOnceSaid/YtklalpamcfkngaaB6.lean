/- commit: Begin of a new run, walked. -/
import Derived.Test.YtklalpamcfkngaaB5
namespace Go.Proofs.Ytklalpamcfkngaa.Cm
open Go Go.RowKit
theorem build77 (a b c d : Bool) (w : World) : (Instr.build 77 #[(0, .agg #[.bool a, .bool b, .bool c, .bool d]), (3, .int .i64 1)]).run Try.prog w = .ok (.agg #[.bool a, .bool b, .bool c, .bool d, .bool false, .bool false, .bool false, .bool false, .bool false, .bool false, .bool false, .bool false, .int .i64 1]) w := by kernel_rfl
theorem grown_cell {w w' : World} {row : Option Nat} {b o : Nat} {v : Value} (h : w.grownBy w' row) (hne : row ≠ some b) (hc : w.cell? ⟨b, o, none⟩ = some v) : w'.cell? ⟨b, o, none⟩ = some v := by
  have := h.block b (World.block_lt_of_cell? w ⟨b, o, none⟩ hc) (fun e => hne e.symm)
  simp only [World.cell?, this] at hc ⊢
  exact hc
def newRun (L : List Int) : RunM := ⟨memF L, noF, noF, 1⟩
theorem runs_put {R : TK → Option (Nat × RunM)} {t : TK} {g : Nat} {m : RunM} : ptrV (putR R t (g, m)) = upd (ptrV R) t (some (.pointer (some ⟨g, 0, none⟩))) := by
  funext k
  unfold ptrV putR upd
  by_cases h : k = t <;> simp [h]
theorem book_begin {w0 w1 w' : World} {B n p a b : Nat} {F : Nat → Prop} {R : TK → Option (Nat × RunM)} {T : TK → Option Int} {t : TK} (h : BookAt w0 B n F p a b R T) (_ht : InK t) {g : Nat} {m : RunM} (hg : g = w0.heap.size) (h1 : w1 = w0.alloc (.cells (runCells m) 77))
    (hm : MapV (.pointer none) w' a (n + 1) (upd (ptrV R) t (some (.pointer (some ⟨g, 0, none⟩))))) (hw : w1.grownBy w' (some a)) : BookAt w' B (n + 1) (fun k => F k ∨ k = g) p a b (putR R t (g, m)) T ∧ Turned F w0 w' := by
  have hb1 : Below w0.heap.size w0 w1 := by rw [h1]; exact (Below.refl _ _).alloc (Nat.le_refl _) _
  have h2 := h.below hb1
  have hpa := h.pa
  have hab := h.ab
  have hz1 : w1.heap.size = w0.heap.size + 1 := by rw [h1]; simp
  have gn : w1.heap[g]? = some (.cells (runCells m) 77 (0, 0)) := by rw [h1, hg]; exact heap_alloc_new w0 _
  obtain ⟨_, _, ha⟩ := map_block h2.runs
  have ag : g ≠ a := fun e => by
    rw [e, ha] at gn
    cases gn
  have ne : ∀ k, k ≠ a → k < w1.heap.size → w'.heap[k]? = w1.heap[k]? := fun k hk hl => hw.block k hl (fun e => hk (Option.some.inj e))
  have hF1 : ∀ k, F k → k < w1.heap.size := fun k hk => by have := h.hi k hk; omega
  have oldg : ∀ k r, InK k → R k = some r → r.1 ≠ g := fun k r hk hr e => by
    have := h.hi _ (h.each k r hk hr).2
    omega
  refine ⟨⟨(ne p hpa.1 (hF1 p h.fp)).trans h2.cell, by rw [runs_put]; exact hm, (h2.takes.kept hw (fun e => hab (Option.some.inj e).symm)).mono (Nat.le_succ n), hab, fun k r hk hr => ?_, fun k k' r r' hk hk' hr hr' e => ?_, Nat.le_trans h2.base hw.size, .inl h.fp, .inl h.fa, .inl h.fb, fun k hk => ?_, fun k hk => ?_⟩, (below_any (G := F) hb1).then (.of_grown hw (fun k e => by cases e; exact h.fa))⟩
  · by_cases e : k = t
    · subst e
      simp [putR] at hr
      subst hr
      exact ⟨(ne g ag (by omega)).trans gn, .inr rfl⟩
    · simp [putR, e] at hr
      have h5 := h2.each k r hk hr
      refine ⟨(ne r.1 (fun e2 => ?_) (hF1 _ h5.2)).trans h5.1, .inl h5.2⟩
      have := h5.1
      rw [e2, ha] at this
      cases this
  · by_cases e1 : k = t <;> by_cases e2 : k' = t
    · rw [e1, e2]
    · subst e1
      simp [putR] at hr
      simp [putR, e2] at hr'
      subst hr
      exact absurd e.symm (oldg k' r' hk' hr')
    · subst e2
      simp [putR] at hr'
      simp [putR, e1] at hr
      subst hr'
      exact absurd e (oldg k r hk hr)
    · simp [putR, e1] at hr
      simp [putR, e2] at hr'
      exact h.inj k k' r r' hk hk' hr hr' e
  · have := hw.size
    rcases hk with hk | rfl
    · have := hF1 k hk; omega
    · omega
  · rcases hk with hk | rfl
    · exact h.low k hk
    · have := h.base; omega
section
variable {w : World} {B nn p a b : Nat} {F : Nat → Prop} {R : TK → Option (Nat × RunM)} {RM : TK → Option RunM} {T : TK → Option Int} {t : TK}
set_option maxRecDepth 100000 in
set_option maxHeartbeats 2000000 in
theorem begin_new (ao : Option Addr) (n c : Nat) (L : List Int) (hB : BookAt w B nn F p a b R T) (hRM : ∀ k, InK k → (R k).map (·.2) = RM k) (ht : InK t) (hR : R t = none) (hL : L.length = n) (hr : Rd w ao L) (hi : ∀ x ∈ L, 0 ≤ x ∧ x ≤ 255) (he : listE L = 0) (hnn : nn ≤ 1000000) :
    Calls Try.prog 12 #[.pointer (some ⟨p, 0, none⟩), .agg #[.int .u8 t.1, .int .u32 t.2.1, .int .u32 t.2.2], .slice ao n c] w fun e w' => e = .returned (.int .i64 0) ∧ Did w B (nn + 1) F p (updR RM t (newRun L)) T w' := by
  have hb0 := Lib.hid ((Below.refl _ w).alloc (Nat.le_refl _) (.cells #[.int .u8 t.1, .int .u32 t.2.1, .int .u32 t.2.2] 33))
  have H := Lib.hid (And.intro hL (And.intro (hr.on hb0.out (Nat.le_refl _)) (And.intro hi he)))
  have HB := Lib.hid (hB.below hb0.out)
  have HR := Lib.hid (And.intro hR hRM)
  have hsz := (hB.hi p hB.fp)
  clear hL hr hi he hB hR hRM
  go_enter Try.func12, Try.ntmps12
  go_wp2_with (go_at_call 35; refine (setOf_ok ao n c L _ H.out.1 H.out.2.1 H.out.2.2.1 H.out.2.2.2).mono ?_; rintro e w1 ⟨rfl, hb⟩; unfold sete ag4; have H1 := Lib.hid (hb0.out.trans (hb.mono hb0.out.size)); have H2 := Lib.hid (HB.out.below hb); obtain ⟨hc, hf⟩ : (∀ b o, b < w.heap.size + 1 → w1.cell? ⟨b, o, none⟩ = (w.alloc (.cells #[.int .u8 t.1, .int .u32 t.2.1, .int .u32 t.2.2] 33)).cell? ⟨b, o, none⟩) ∧ True := ⟨fun b o h => hb.cell (p := ⟨b, o, none⟩) (by simpa using h), trivial⟩; have t0 := (hc w.heap.size 0 (by omega)).trans (World.cell?_alloc_new w _ 33 0); have t1 := (hc w.heap.size 1 (by omega)).trans (World.cell?_alloc_new w _ 33 1); have t2 := (hc w.heap.size 2 (by omega)).trans (World.cell?_alloc_new w _ 33 2); have hz1 : w.heap.size < w1.heap.size := (by have := hb.size; simp at this; omega); clear hb hc hf)
  have hbn : Below w1.heap.size w1 (w1.alloc (.cells #[.bool (memF L 0), .bool (memF L 1), .bool (memF L 2), .bool (memF L 3)] 75)) := (Below.refl _ w1).alloc (Nat.le_refl _) _
  have H3 := Lib.hid (H2.out.below hbn)
  have H4 := Lib.hid (H1.out.trans (hbn.mono H1.out.size))
  obtain ⟨hc, hf⟩ : (∀ b o, b < w1.heap.size → (w1.alloc (.cells #[.bool (memF L 0), .bool (memF L 1), .bool (memF L 2), .bool (memF L 3)] 75)).cell? ⟨b, o, none⟩ = w1.cell? ⟨b, o, none⟩) ∧ True := ⟨fun b o h => hbn.cell (p := ⟨b, o, none⟩) h, trivial⟩
  have u0 := (hc _ 0 hz1).trans t0
  have u1 := (hc _ 1 hz1).trans t1
  have u2 := (hc _ 2 hz1).trans t2
  have t00 := t0
  clear hbn hc hf t0 t1 t2
  have m0 := World.cell?_alloc_new w1 #[.bool (memF L 0), .bool (memF L 1), .bool (memF L 2), .bool (memF L 3)] 75 0
  have m1 := World.cell?_alloc_new w1 #[.bool (memF L 0), .bool (memF L 1), .bool (memF L 2), .bool (memF L 3)] 75 1
  have m2 := World.cell?_alloc_new w1 #[.bool (memF L 0), .bool (memF L 1), .bool (memF L 2), .bool (memF L 3)] 75 2
  have m3 := World.cell?_alloc_new w1 #[.bool (memF L 0), .bool (memF L 1), .bool (memF L 2), .bool (memF L 3)] 75 3
  have hal2 : (some a ≠ some w.heap.size) ∧ (some a ≠ some w1.heap.size) := by
    have h5 := H2.out.hi a H2.out.fa
    obtain ⟨_, _, ha⟩ := map_block H2.out.runs
    refine ⟨fun e => ?_, fun e => by have := Option.some.inj e; omega⟩
    have := Option.some.inj e
    subst this
    simp only [World.cell?, ha] at t00
    cases t00
  obtain ⟨W, hW⟩ : ∃ W, w1.alloc (.cells #[.bool (memF L 0), .bool (memF L 1), .bool (memF L 2), .bool (memF L 3)] 75) = W := ⟨_, rfl⟩
  rw [hW] at H3 H4 u0 u1 u2 m0 m1 m2 m3 ⊢
  clear hW t00
  refine still_lit (by kernel_rfl) (by kernel_rfl) ?_
  obtain ⟨cp0, cp1⟩ := H3.out.cells
  have HM := Lib.hid (H3.out.runs.on (turned_drew (fun _ => False) _) id)
  repeat (first | (refine wpStill_value rfl (exec_look51 (x := .tmp 25) (y := .tmp 26) rfl rfl rfl HM.out ht) ?_; rw [ptrV_get HR.out.1]) | still_step)
  refine wpStill_nil ?_
  have H5 := Lib.hid ((H3.out.on (turned_drew (fun _ => False) _) (fun _ _ => id)).on (turned_drew (fun _ => False) _) (fun _ _ => id))
  clear HM
  go_wp2
  have hbd := build77 (memF L 0) (memF L 1) (memF L 2) (memF L 3)
  refine wp_region_held_drew (S := (fun w' => w'.cell? ⟨p, 0, none⟩ = some (.map (some a)) ∧ (w'.cell? ⟨w.heap.size, 0, none⟩ = some (.int .u8 t.1) ∧ w'.cell? ⟨w.heap.size, 1, none⟩ = some (.int .u32 t.2.1) ∧ w'.cell? ⟨w.heap.size, 2, none⟩ = some (.int .u32 t.2.2)) ∧ (w'.cell? ⟨w1.heap.size, 0, none⟩ = some (.bool (memF L 0)) ∧ w'.cell? ⟨w1.heap.size, 1, none⟩ = some (.bool (memF L 1)) ∧ w'.cell? ⟨w1.heap.size, 2, none⟩ = some (.bool (memF L 2)) ∧ w'.cell? ⟨w1.heap.size, 3, none⟩ = some (.bool (memF L 3))))) (by kernel_rfl) ⟨cp0, ⟨u0, u1, u2⟩, m0, m1, m2, m3⟩ (fun hHeld => ?_)
  refine wpAnyH_take (i := 0) (oi := { dst := some 29, op := Op.move (Operand.tmp 0), type := 24, pos := "commit.go:49", after := #[], guard := none }) (v := ?_) rfl (by kernel_rfl) (by kernel_rfl) (by kernel_rfl) (fun _ _ _ h => h) (Or.inl ⟨by rfl, ?_⟩) (by assumption) ?_
  rotate_left
  focus (intro w' hSw; (try dsimp only at hSw); go_simp; try with_reducible rfl)
  try simp only [Act.put, List.setIfInBounds_toArray, List.set_cons_zero, List.set_cons_succ]
  refine wpAnyH_take (i := 1) (oi := { dst := some 30, op := Op.nilCheck (Operand.tmp 29), type := 0, pos := "commit.go:49", after := #[{ on := 0, ground := Ground.data }], guard := none }) (v := ?_) rfl (by kernel_rfl) (by kernel_rfl) (by kernel_rfl) (fun _ _ _ h => h) (Or.inl ⟨by rfl, ?_⟩) (by assumption) ?_
  rotate_left
  focus (intro w' hSw; (try dsimp only at hSw); go_simp; try with_reducible rfl)
  try simp only [Act.put, List.setIfInBounds_toArray, List.set_cons_zero, List.set_cons_succ]
  refine wpAnyH_take (i := 2) (oi := { dst := some 31, op := Op.fieldAddr 54 (Operand.tmp 30) 0, type := 0, pos := "commit.go:49", after := #[{ on := 1, ground := Ground.data }], guard := none }) (v := ?_) rfl (by kernel_rfl) (by kernel_rfl) (by kernel_rfl) (fun _ _ _ h => h) (Or.inl ⟨by rfl, ?_⟩) (by assumption) ?_
  rotate_left
  focus (intro w' hSw; (try dsimp only at hSw); go_simp; try with_reducible rfl)
  try simp only [Act.put, List.setIfInBounds_toArray, List.set_cons_zero, List.set_cons_succ]
  refine wpAnyH_take (i := 3) (oi := { dst := some 32, op := Op.load 51 (Operand.tmp 31), type := 51, pos := "commit.go:49", after := #[{ on := 2, ground := Ground.data }], guard := none }) (v := ?_) rfl (by kernel_rfl) (by kernel_rfl) (by kernel_rfl) (fun _ _ _ h => h) (Or.inl ⟨by rfl, ?_⟩) (by assumption) ?_
  rotate_left
  focus (intro w' hSw; (try dsimp only at hSw); go_simp; try with_reducible rfl)
  try simp only [Act.put, List.setIfInBounds_toArray, List.set_cons_zero, List.set_cons_succ]
  refine wpAnyH_take (i := 4) (oi := { dst := some 33, op := Op.load 33 (Operand.tmp 4), type := 33, pos := "commit.go:49", after := #[], guard := none }) (v := ?_) rfl (by kernel_rfl) (by kernel_rfl) (by kernel_rfl) (fun _ _ _ h => h) (Or.inl ⟨by rfl, ?_⟩) (by assumption) ?_
  rotate_left
  focus (intro w' hSw; (try dsimp only at hSw); go_simp; try with_reducible rfl)
  try simp only [Act.put, List.setIfInBounds_toArray, List.set_cons_zero, List.set_cons_succ]
  refine wpAnyH_take (i := 5) (oi := { dst := some 34, op := Op.load 75 (Operand.tmp 7), type := 75, pos := "commit.go:49", after := #[], guard := none }) (v := ?_) rfl (by kernel_rfl) (by kernel_rfl) (by kernel_rfl) (fun _ _ _ h => h) (Or.inl ⟨by rfl, ?_⟩) (by assumption) ?_
  rotate_left
  focus (intro w' hSw; (try dsimp only at hSw); go_simp; try with_reducible rfl)
  try simp only [Act.put, List.setIfInBounds_toArray, List.set_cons_zero, List.set_cons_succ]
  refine wpAnyH_take (i := 6) (oi := { dst := some 35, op := Op.build 77 #[(0, Operand.tmp 34), (3, Operand.const (Value.int IntKind.i64 1))], type := 77, pos := "commit.go:49", after := #[{ on := 5, ground := Ground.data }], guard := none }) (v := ?_) rfl (by kernel_rfl) (by kernel_rfl) (by kernel_rfl) (fun _ _ _ h => h) (Or.inl ⟨by rfl, ?_⟩) (by assumption) ?_
  rotate_left
  focus (intro w' hSw; (try dsimp only at hSw); go_simp; try with_reducible rfl)
  try simp only [Act.put, List.setIfInBounds_toArray, List.set_cons_zero, List.set_cons_succ]
  refine wpAnyH_ready (rs := [7]) (by kernel_rfl) (by simp) ?_
  refine AllReadyH.cons (o := { dst := some 36, op := Op.box 77 (Operand.tmp 35), type := 72, pos := "commit.go:49", after := #[{ on := 6, ground := Ground.data }], guard := none }) rfl (fun K hK => ?_) AllReadyH.nil
  go_simp
  refine hK.out _ _ (by go_keep) (fun hHeld => ?_)
  clear hK K
  try simp only [Act.put, List.setIfInBounds_toArray, List.set_cons_zero, List.set_cons_succ]
  have hbk : BookAt (W.drew.drew.alloc (.cells (runCells (newRun L)) 77)) B nn F p a b R T := H5.out.below ((Below.refl _ _).alloc (Nat.le_refl _) _)
  obtain ⟨D, hD, hD2⟩ := hbk.runs
  have HX := Lib.hid (And.intro hbk (And.intro hD hD2))
  have hpa := hbk.pa.1
  have hal := H3.out.hi a H3.out.fa
  clear hbk hD hD2
  refine wpAnyH_ready (rs := [8]) (by kernel_rfl) (by simp) ?_
  refine AllReadyH.cons (o := { dst := none, op := Op.mapUpdate 51 (Operand.tmp 32) (Operand.tmp 33) (Operand.tmp 36), type := 0, pos := "commit.go:49", after := #[{ on := 3, ground := Ground.data }, { on := 4, ground := Ground.data }, { on := 7, ground := Ground.data }, { on := 0, ground := Ground.phase }, { on := 1, ground := Ground.phase }, { on := 2, ground := Ground.phase }, { on := 3, ground := Ground.phase }, { on := 4, ground := Ground.phase }, { on := 5, ground := Ground.phase }, { on := 6, ground := Ground.phase }, { on := 7, ground := Ground.phase }], guard := none }) rfl (fun K hK => ?_) AllReadyH.nil
  refine wp_mapUpdate_own _ (.tmp 32) (.tmp 33) (.tmp 36) 51 rfl 33 72 law33 Try.underlying51 tok a nn D rfl HX.out.2.1 (by unfold maxLen; omega) _ _ _ rfl rfl (key33' ht) _ [] rfl ?_
  intro w2 hown2 hgrow2
  refine hK.out _ _ ?_ (fun _ => ?_)
  · obtain ⟨k0, ⟨k1, k2, k3⟩, k4, k5, k6, k7⟩ := hHeld
    have hx := hal2
    exact ⟨grown_cell hgrow2 (fun e => hpa (Option.some.inj e).symm) k0, ⟨grown_cell hgrow2 hx.1 k1, grown_cell hgrow2 hx.1 k2, grown_cell hgrow2 hx.1 k3⟩, grown_cell hgrow2 hx.2 k4, grown_cell hgrow2 hx.2 k5, grown_cell hgrow2 hx.2 k6, grown_cell hgrow2 hx.2 k7⟩
  clear hK K
  simp only [Act.put]
  refine wpAnyH_done (by kernel_rfl) ?_ _
  have HE := Lib.hid (book_begin H5.out ht (m := newRun L) rfl rfl (MapV.stored ht HX.out.2.1 HX.out.2.2 hown2) hgrow2)
  have H6 := Lib.hid (show Did w B (nn + 1) F p (updR RM t (newRun L)) T w2 from
    ⟨_, ⟨a, b, _, HE.out.1, putR_map HR.out.2 _ _⟩, fun k hk => hk.imp id (fun e => by rw [e]; exact H4.out.size), (below_any (G := F) H4.out.drew.drew).then HE.out.2⟩)
  clear hown2 hgrow2
  go_wp2
  go_ret
  exact ⟨rfl, H6.out⟩
end
end Go.Proofs.Ytklalpamcfkngaa.Cm
