/- ghost: graph.New, graph.Put, and Put of a nil tally, walked. -/
import Derived.Test.YtgjjfodogkcmmaaN1
import Derived.Deep.RegionHeld3
namespace Go.Proofs.Ytgjjfodogkcmmaa.Gh
open Go Go.RowKit Ytgjjfodogkcmmaa.So Ytgjjfodogkcmmaa.Vl
/-- A graph with nothing, of the call's own. -/
structure GrN (w0 : World) (B g p e : Nat) (w : World) : Prop where
  gr : w.heap[g]? = some (.cells #[.map (some p), .map (some e)] 112 (0, 0))
  mp : w.heap[p]? = some (.map #[] 0)
  me : w.heap[e]? = some (.map #[] 0)
  low : Below B w0 w
  bg : B ≤ g
  bp : B ≤ p
  be : B ≤ e
  ne : p ≠ e
theorem GrN.on {w0 w w' : World} {B g p e : Nat} (h : GrN w0 B g p e w) (hb : Below w.heap.size w w') : GrN w0 B g p e w' := by
  have hc : ∀ k o, w.heap[k]? = some o → w'.heap[k]? = some o := fun k o hk => (hb.block k (Array.getElem?_eq_some_iff.1 hk).1).trans hk
  exact ⟨hc _ _ h.gr, hc _ _ h.mp, hc _ _ h.me, ⟨hb.os.trans h.low.os, hb.tape.trans h.low.tape, hb.output.trans h.low.output, Nat.le_trans h.low.size hb.size, fun k hk => by
    by_cases hk2 : k < w.heap.size
    · exact (hb.block k hk2).trans (h.low.block k hk)
    · have := (Array.getElem?_eq_some_iff.1 h.gr).1
      have := h.bg
      omega⟩, h.bg, h.bp, h.be, h.ne⟩
theorem GrN.boxed {w0 w : World} {B g p e : Nat} (h : GrN w0 B g p e w) (vc : Array Value) : GrI w0 B g p e w.heap.size vc (w.alloc (.cells vc 28)) :=
  have h2 := h.on ((Below.refl _ w).alloc (Nat.le_refl _) (.cells vc 28))
  ⟨h2.gr, h2.mp, h2.me, heap_alloc_new w _, h2.low, h2.bg, h2.bp, h2.be, h2.ne⟩
theorem heap_at_new (w : World) (o : Obj) {n : Nat} (h : n = w.heap.size) : (w.alloc o).heap[n]? = some o := by
  rw [h]
  exact heap_alloc_new w o
theorem new35 (w : World) : Calls Try.prog 35 #[] w fun e w' => ∃ g p q, e = .returned (.pointer (some ⟨g, 0, none⟩)) ∧ GrN w w.heap.size g p q w' ∧ Below w.heap.size w w' := by
  have hmm := @run_makeMap Try.prog
  go_enter Try.func35, Try.ntmps35
  go_wp2
  go_ret
  have hb : Below w.heap.size w (((w.alloc (.map #[] 0)).alloc (.map #[] 0)).alloc (.cells #[.map (some w.heap.size), .map (some (w.heap.size + 1))] 112)) := (((Below.refl _ w).alloc (Nat.le_refl _) _).alloc (by simp) _).alloc (by simp; omega) _
  refine ⟨w.heap.size + 2, w.heap.size, w.heap.size + 1, by simp, ⟨?_, ?_, ?_, hb, by omega, by omega, by omega, by omega⟩, hb⟩
  · exact heap_at_new _ _ (by simp)
  · exact (heap_alloc_old _ _ (by simp; omega)).trans ((heap_alloc_old _ _ (by simp)).trans (heap_alloc_new _ _))
  · exact (heap_alloc_old _ _ (by simp)).trans (heap_at_new _ _ (by simp))
theorem props_few {L : List Hf} (h : propsB L = true) (hw : ∀ t ∈ L, (Lit.int .u8 t.1).wf = true) : L.length ≤ 4 := by
  have hall : ∀ i, i < L.length → pAt L i = true := fun i hi => List.all_eq_true.1 h i (List.mem_range.2 hi)
  have key : ∀ (i : Nat) (t : Hf), L[i]? = some t → (i : Int) ≤ t.1 ∧ t.1 ≤ 3 := by
    intro i
    induction i with
    | zero =>
      intro t ht
      have h1 := hall 0 (List.getElem?_eq_some_iff.1 ht).1
      have h2 := hw t (List.mem_of_getElem? ht)
      unfold pAt at h1
      rw [ht] at h1
      have h0 : IntKind.u8.min = 0 := by decide
      simp [Lit.wf] at h1 h2
      rw [h0] at h2
      omega
    | succ i ih =>
      intro t ht
      have hl := (List.getElem?_eq_some_iff.1 ht).1
      have h1 := hall (i + 1) hl
      obtain ⟨s, hs⟩ : ∃ s, L[i]? = some s := ⟨_, List.getElem?_eq_getElem (by omega)⟩
      have h3 := ih s hs
      unfold pAt upB at h1
      rw [ht] at h1
      simp [hs] at h1
      omega
  apply Classical.byContradiction
  intro hn
  obtain ⟨t, ht⟩ : ∃ t, L[4]? = some t := ⟨_, List.getElem?_eq_getElem (by omega)⟩
  have := key 4 t ht
  omega
theorem okT_small {t : Hf} (h : okT t = true) : t.2.2.2.size ≤ 281474976710656 := by
  unfold okT formB at h
  have h := of_decide_eq_true h
  have e : t.2.2.2.size = t.2.2.2.data.toList.length := by rw [Array.length_toList]; rfl
  rw [e]
  rcases h with ⟨_, _, h⟩ | ⟨_, h⟩ | ⟨_, _, h, _⟩
  · rw [h]; simp
  · rw [h]; simp
  · omega
theorem form_small {v : Vv} (h : v.form = true) (hp : ∀ t ∈ v.P, (Lit.int .u8 t.1).wf = true) : v.P.length ≤ 1000 ∧ v.L.length ≤ 1000 ∧ ∀ t ∈ v.P ++ v.L, t.2.2.2.size ≤ 281474976710656 := by
  obtain ⟨id, th, po, pc, P, ho, hc, L⟩ := v
  unfold Vv.form at h
  simp only at h hp ⊢
  cases th
  · simp at h
    obtain ⟨_, rfl, rfl⟩ := h
    simp
  · simp [hsB] at h
    obtain ⟨_, h1, h2, h3⟩ := h
    refine ⟨by have := props_few h1 hp; omega, by omega, fun t ht => ?_⟩
    rcases List.mem_append.1 ht with ht | ht
    · obtain ⟨i, hi⟩ := List.getElem?_of_mem ht
      have h5 := List.all_eq_true.1 h1 i (List.mem_range.2 (List.getElem?_eq_some_iff.1 hi).1)
      unfold pAt at h5
      rw [hi] at h5
      simp at h5
      exact okT_small h5.2
    · obtain ⟨i, hi⟩ := List.getElem?_of_mem ht
      have h5 := List.all_eq_true.1 h3 i (List.mem_range.2 (List.getElem?_eq_some_iff.1 hi).1)
      unfold hAt at h5
      rw [hi] at h5
      simp at h5
      exact okT_small h5.2
/-- A vertex that may be put. -/
structure Vv.fit (w : World) (v : Vv) : Prop where
  ok : v.ok w
  kp : ∀ t ∈ v.P, (Lit.int .u8 t.1).wf = true
  kl : ∀ t ∈ v.L, In32 t.1
theorem Vv.fit.below {w w' : World} {v : Vv} {B : Nat} (h : v.fit w) (hb : Below B w w') (hB : w.heap.size ≤ B) : v.fit w' := ⟨h.ok.below hb hB, h.kp, h.kl⟩
set_option maxRecDepth 100000 in
set_option maxHeartbeats 1000000 in
theorem put36 (w0 : World) (B g p q : Nat) (v : Vv) (w : World) (hg : GrN w0 B g p q w) (hv : v.fit w) :
    Calls Try.prog 36 #[.pointer (some ⟨g, 0, none⟩), v.val] w fun e w' => e = .returned (.int .i64 (if v.form then 0 else 3)) ∧ Below B w0 w' := by
  have hb1 := (Below.refl w.heap.size w).alloc (Nat.le_refl _) (.cells #[.int .u32 v.id, .bool v.th, .slice v.po v.P.length v.pc, .slice v.ho v.L.length v.hc] 28)
  have HV := Lib.hid (hv.below hb1 (Nat.le_refl _))
  have HG := Lib.hid (hg.on hb1)
  have hx := heap_alloc_new w (.cells #[.int .u32 v.id, .bool v.th, .slice v.po v.P.length v.pc, .slice v.ho v.L.length v.hc] 28)
  unfold Vv.val
  obtain ⟨W, hW⟩ : ∃ W, w.alloc (.cells #[.int .u32 v.id, .bool v.th, .slice v.po v.P.length v.pc, .slice v.ho v.L.length v.hc] 28) = W := ⟨_, rfl⟩
  obtain ⟨x, hxx⟩ : ∃ x, w.heap.size = x := ⟨_, rfl⟩
  rw [hW] at HV HG hx
  rw [hxx] at hx
  have hxl := (Array.getElem?_eq_some_iff.1 hx).1
  obtain ⟨x0, x1, x2, x3⟩ : W.cell? ⟨x, 0, none⟩ = some (.int .u32 v.id) ∧ W.cell? ⟨x, 1, none⟩ = some (.bool v.th) ∧ W.cell? ⟨x, 2, none⟩ = some (.slice v.po v.P.length v.pc) ∧ W.cell? ⟨x, 3, none⟩ = some (.slice v.ho v.L.length v.hc) := by simp [World.cell?, hx]
  have HF := Lib.hid (formed_any v W HV.out.ok)
  have HX := Lib.hid (And.intro hxl (And.intro x0 (And.intro x1 (And.intro x2 x3))))
  clear hb1 hv hg
  cases hf : v.form
  · have HN := Lib.hid hf
    clear hf hx hxl
    go_enter Try.func36, Try.ntmps36
    go_wp2_with (go_at_call 51; refine HF.out.mono ?_; rw [HN.out]; rintro e' w1 ⟨rfl, hb1⟩; have H1 := Lib.hid hb1; clear hb1)
    go_ret
    exact ⟨rfl, (HG.out.on H1.out).low⟩
  · have HN := Lib.hid hf
    clear hf hx hxl
    go_enter Try.func36, Try.ntmps36
    go_wp2_with (first
      | (go_at_call 51; refine HF.out.mono ?_; rw [HN.out]; rintro e' w1 ⟨rfl, hb1⟩; have H1 := Lib.hid hb1; obtain ⟨u0, u1, u2, u3⟩ := four_on HX.out.2.1 HX.out.2.2.1 HX.out.2.2.2.1 HX.out.2.2.2.2 (fun k hk => hb1.block k (hk ▸ HX.out.1)); clear hb1)
      | (go_at_call 52; refine (ghold_any w0 B g p q v _ ((HG.out.on H1.out).boxed _) (HV.out.below H1.out (Nat.le_refl _)).ok HV.out.kp HV.out.kl (form_small HN.out HV.out.kp).1 (form_small HN.out HV.out.kp).2.1 (form_small HN.out HV.out.kp).2.2).mono ?_; rintro e' w2 ⟨rfl, hb2⟩; have H2 := Lib.hid hb2; clear hb2))
    go_ret
    exact ⟨rfl, H2.out⟩
end Go.Proofs.Ytgjjfodogkcmmaa.Gh
