/- commit: the document's Begin of a new run, walked. -/
import Derived.Test.YtklalpamcfkngaaR10
namespace Go.Proofs.Ytklalpamcfkngaa.Cm
open Go Go.RowKit
theorem step_turns {P : Program} {ops : Array Oper} {o : Oper} {a : Act} {w w' : World} {K : Act → World → Prop} {Q : Exit → Act → World → Prop} {E : Prop} {v : Value} (hg : o.guard = none)
    (hrun : (execOp a.eval o).run P w = .ok (.value v) w') (h : K (a.put o.dst v) w') : if Region.wanted o (yielded ops a.tmps) = true then Oper.wp P o a w K Q else E := by
  have hw : Region.wanted o (yielded ops a.tmps) = true := by simp [Region.wanted, hg]
  rw [if_pos hw]
  unfold Oper.wp
  rw [hrun]
  simp [go_sem]
  exact h
theorem mk83 (n : Nat) (h1 : 1 ≤ n) (h4 : n ≤ 4) (w : World) : (Instr.makeSlice 83 (.int .i64 n) (.int .i64 n)).run Try.prog w = .ok (.slice (some ⟨w.heap.size, 0, none⟩) n n) (w.alloc (.cells (Array.replicate n (.bool false)) 4)) := by
  have m1 : ∀ w : World, (Instr.makeSlice 83 (.int .i64 1) (.int .i64 1)).run Try.prog w = .ok (.slice (some ⟨w.heap.size, 0, none⟩) 1 1) (w.alloc (.cells #[.bool false] 4)) := fun _ => by kernel_rfl
  have m2 : ∀ w : World, (Instr.makeSlice 83 (.int .i64 2) (.int .i64 2)).run Try.prog w = .ok (.slice (some ⟨w.heap.size, 0, none⟩) 2 2) (w.alloc (.cells #[.bool false, .bool false] 4)) := fun _ => by kernel_rfl
  have m3 : ∀ w : World, (Instr.makeSlice 83 (.int .i64 3) (.int .i64 3)).run Try.prog w = .ok (.slice (some ⟨w.heap.size, 0, none⟩) 3 3) (w.alloc (.cells #[.bool false, .bool false, .bool false] 4)) := fun _ => by kernel_rfl
  have m4 : ∀ w : World, (Instr.makeSlice 83 (.int .i64 4) (.int .i64 4)).run Try.prog w = .ok (.slice (some ⟨w.heap.size, 0, none⟩) 4 4) (w.alloc (.cells #[.bool false, .bool false, .bool false, .bool false] 4)) := fun _ => by kernel_rfl
  have : n = 1 ∨ n = 2 ∨ n = 3 ∨ n = 4 := by omega
  rcases this with rfl | rfl | rfl | rfl
  · exact m1 w
  · exact m2 w
  · exact m3 w
  · exact m4 w
theorem exec_make {a : Act} {o : Oper} {x y : Operand} (ho : o.op = .makeSlice 83 x y) {n : Nat} (hx : a.eval x = .int .i64 n) (hy : a.eval y = .int .i64 n) (h1 : 1 ≤ n) (h4 : n ≤ 4) (w : World) :
    (execOp a.eval o).run Try.prog w = .ok (.value (.slice (some ⟨w.heap.size, 0, none⟩) n n)) (w.alloc (.cells (Array.replicate n (.bool false)) 4)) := by
  simp [execOp, ho, hx, hy, mk83 n h1 h4, Result.andThen]
theorem build85 (x y z : Int) (a b c : Addr) (l cl l2 cl2 l3 cl3 : Nat) (w : World) : (Instr.build 85 #[(0, .agg #[.int .u8 x, .int .u32 y, .int .u32 z]), (1, .slice (some a) l cl), (2, .slice (some b) l2 cl2), (3, .slice (some c) l3 cl3), (4, .int .i64 1)]).run Try.prog w = .ok (.agg #[.int .u8 x, .int .u32 y, .int .u32 z, .slice (some a) l cl, .slice (some b) l2 cl2, .slice (some c) l3 cl3, .int .i64 1]) w := by kernel_rfl
theorem info85 : (Try.prog.info? 85).map (fun i => (i.zero, i.size, i.bytes)) = some (some (.agg #[.int .u8 0, .int .u32 0, .int .u32 0, .slice none 0 0, .slice none 0 0, .slice none 0 0, .int .i64 0]), 7, 96) := by kernel_rfl
theorem one7 (c : RC) : ∀ u ∈ cells7 c, u.oneCell' = true := by
  intro u hu
  simp [cells7] at hu
  rcases hu with rfl | rfl | rfl | rfl | rfl | rfl | rfl <;> rfl
theorem bools_no (m : RunM) : boolsL m noF = List.replicate (nl m) (.bool false) := by
  unfold boolsL nl
  rw [List.eq_replicate_iff]
  exact ⟨by simp, fun b hb => by obtain ⟨_, _, rfl⟩ := List.mem_map.1 hb; rfl⟩
theorem refat_new {w0 w' : World} {B q : Nat} {F : Nat → Prop} {rv rv' tv : Value} {CL : List RC} {TT : TL} (h : RefAt w0 B F q rv tv CL TT) (c : RC)
    (hq : w'.heap[q]? = some (.cells #[rv', tv] 30 (0, 0))) (hrow : w'.ownsRow B 85 7 rv' (CL.length + 1) (CL.flatMap cells7 ++ cells7 c)) (ht : Turned (fun k => k = q ∨ rv.ownBlock = some k) w0 w')
    (hn : w'.ownsRow B 5 1 (.slice (some ⟨c.gn, 0, none⟩) (nl c.m) c.cn) (nl c.m) (u8s (nodesI c.m))) (hy : w'.heap[c.gy]? = some (.cells (boolsL c.m c.m.v).toArray 4 (0, 0))) (hd : w'.heap[c.gd]? = some (.cells (boolsL c.m c.m.a).toArray 4 (0, 0)))
    (hyd : c.gy ≠ c.gd) (hyF : ¬ F c.gy) (hdF : ¬ F c.gd) (hyB : B ≤ c.gy) (hdB : B ≤ c.gd) (hp : 0 < nl c.m) (hk : InK c.t) (hkn : ∀ d ∈ CL, eqK d.t c.t = false) :
    RefAt w' B (fun k => F k ∨ k = c.gn ∨ k = c.gy ∨ k = c.gd ∨ rv'.ownBlock = some k) q rv' tv (CL ++ [c]) TT := by
  have ks : ∀ (k : Nat) (cs : Array Value) (T : TypeId), w0.heap[k]? = some (.cells cs T (0, 0)) → T ≠ 85 → T ≠ 30 → w'.heap[k]? = w0.heap[k]? := fun k cs T hk hT hT2 => by
    refine ht.block k (Array.getElem?_eq_some_iff.1 hk).1 (fun e => ?_)
    rcases e with e | e
    · subst e
      rw [h.cell] at hk
      simp at hk
      exact hT2 hk.2.symm
    · obtain ⟨_, cur, h3⟩ := own_obj h.rrow e
      rw [hk] at h3; cases h3; exact hT rfl
  have lt : ∀ (k : Nat) (cs : Array Value) (T : TypeId), w'.heap[k]? = some (.cells cs T (0, 0)) → k < w'.heap.size := fun k cs T hk => (Array.getElem?_eq_some_iff.1 hk).1
  refine ⟨hq, by rw [List.length_append, List.flatMap_append]; simpa using hrow, own_on h.trow (fun g hg => ?_), fun d hd2 => ?_, fun d hd2 => ?_, fun d hd2 => ?_, ?_, fun d hd2 => ?_, ?_, h.tkeys, ⟨fun d hd2 => ?_, h.wf.2⟩, Nat.le_trans h.base ht.size, .inl h.fq, fun g hg => .inr (.inr (.inr (.inr hg))), fun g hg => .inl (h.ft g hg), fun k hk => ?_, fun k hk => ?_⟩
  · obtain ⟨_, cur, h3⟩ := own_obj h.trow hg
    exact ks g _ _ h3 (by decide) (by decide)
  · rcases List.mem_append.1 hd2 with hd2 | hd2
    · refine ⟨own_on (h.nodes d hd2).1 (fun g hg => ?_), .inl (h.nodes d hd2).2⟩
      obtain ⟨_, cur, h3⟩ := own_obj (h.nodes d hd2).1 hg
      exact ks g _ _ h3 (by decide) (by decide)
    · rw [List.mem_singleton] at hd2; subst hd2; exact ⟨hn, .inr (.inl rfl)⟩
  · rcases List.mem_append.1 hd2 with hd2 | hd2
    · exact ⟨(ks _ _ _ (h.yes d hd2).1 (by decide) (by decide)).trans (h.yes d hd2).1, .inl (h.yes d hd2).2⟩
    · rw [List.mem_singleton] at hd2; subst hd2; exact ⟨hy, .inr (.inr (.inl rfl))⟩
  · rcases List.mem_append.1 hd2 with hd2 | hd2
    · exact ⟨(ks _ _ _ (h.did d hd2).1 (by decide) (by decide)).trans (h.did d hd2).1, .inl (h.did d hd2).2⟩
    · rw [List.mem_singleton] at hd2; subst hd2; exact ⟨hd, .inr (.inr (.inr (.inl rfl)))⟩
  · rw [List.flatMap_append, List.nodup_append]
    refine ⟨h.dist, by simpa using hyd, fun x hx y hy2 => ?_⟩
    obtain ⟨d, hd2, hx⟩ := List.mem_flatMap.1 hx
    have hFx : F x := by
      simp at hx
      rcases hx with rfl | rfl
      · exact (h.yes d hd2).2
      · exact (h.did d hd2).2
    simp at hy2
    rintro rfl
    rcases hy2 with rfl | rfl
    · exact hyF hFx
    · exact hdF hFx
  · rcases List.mem_append.1 hd2 with hd2 | hd2
    · exact h.pos d hd2
    · rw [List.mem_singleton] at hd2; subst hd2; exact hp
  · rw [List.map_append, List.nodup_append]
    refine ⟨h.keys, by simp, fun x hx y hy2 => ?_⟩
    obtain ⟨d, hd2, rfl⟩ := List.mem_map.1 hx
    simp at hy2
    subst hy2
    intro e
    have := hkn d hd2
    rw [(eqK_iff _ _).2 e] at this
    cases this
  · rcases List.mem_append.1 hd2 with hd2 | hd2
    · exact h.wf.1 d hd2
    · rw [List.mem_singleton] at hd2; subst hd2; exact hk
  · rcases hk with hk | rfl | rfl | rfl | hk
    · exact Nat.lt_of_lt_of_le (h.hi k hk) ht.size
    · obtain ⟨_, cur, h3⟩ := own_obj hn (g := c.gn) (by simp [Value.ownBlock])
      exact lt _ _ _ h3
    · exact lt _ _ _ hy
    · exact lt _ _ _ hd
    · obtain ⟨_, cur, h3⟩ := own_obj hrow hk
      exact lt _ _ _ h3
  · rcases hk with hk | rfl | rfl | rfl | hk
    · exact h.low k hk
    · exact (own_obj hn (g := c.gn) (by simp [Value.ownBlock])).1
    · exact hyB
    · exact hdB
    · exact (own_obj hrow hk).1
theorem exec_load1 {P : Program} {a : Act} {o : Oper} {t : TypeId} {x : Operand} (ho : o.op = .load t x) {p : Addr} {v : Value} {w : World} (ht : (isAgg t).run P w = .ok false w) (hx : a.eval x = .pointer (some p)) (hc : w.cell? p = some v) :
    (execOp a.eval o).run P w = .ok (.value v) w := by
  have hl : (loadVar t p).run P w = .ok v w := by simp [loadVar, ht, hc, go_sem]
  simp [execOp, ho, hx, Instr.loadAt, Instr.sureAddr, hl, Result.andThen]
theorem cell_old {w : World} {b i : Nat} {u : Value} (h : w.cell? ⟨b, i, none⟩ = some u) {o : Obj} : (w.alloc o).cell? ⟨b, i, none⟩ = some u :=
  (World.cell?_alloc_past o b i (World.block_lt_of_cell? w ⟨b, i, none⟩ h)).trans h
theorem agg27 (w : World) : (isAgg 27).run Try.prog w = .ok false w := by kernel_rfl
theorem grown_cell2 {w w' : World} {row : Option Nat} {b o : Nat} {v : Value} (h : w.grownBy w' row) (hne : row ≠ some b) (hc : w.cell? ⟨b, o, none⟩ = some v) : w'.cell? ⟨b, o, none⟩ = some v := by
  have := h.block b (World.block_lt_of_cell? w ⟨b, o, none⟩ hc) (fun e => hne e.symm)
  simp only [World.cell?, this] at hc ⊢
  exact hc
/-- What stands behind the makes of a new run. -/
structure Five (w3 w5 : World) (n : Nat) (c : RC) : Prop where
  below : Below w3.heap.size w3 w5
  size : w5.heap.size = w3.heap.size + 3
  y : w5.heap[w3.heap.size]? = some (.cells (Array.replicate n (.bool false)) 4 (0, 0))
  d : w5.heap[w3.heap.size + 1]? = some (.cells (Array.replicate n (.bool false)) 4 (0, 0))
  news : ∀ j u, (cells7 c)[j]? = some u → w5.cell? ((⟨w3.heap.size + 1 + 1, 0, none⟩ : Addr).add j) = some u
theorem five (w3 : World) (n : Nat) (c : RC) : Five w3 (((w3.alloc (.cells (Array.replicate n (.bool false)) 4)).alloc (.cells (Array.replicate n (.bool false)) 4)).alloc (.cells (cells7 c).toArray 85)).drew n c := by
  have b1 : Below w3.heap.size w3 w3 := Below.refl _ _
  have z2 : (w3.alloc (.cells (Array.replicate n (.bool false)) 4)).heap.size = w3.heap.size + 1 := by simp
  have z3 : ((w3.alloc (.cells (Array.replicate n (.bool false)) 4)).alloc (.cells (Array.replicate n (.bool false)) 4)).heap.size = w3.heap.size + 1 + 1 := by simp
  refine ⟨(((b1.alloc (Nat.le_refl _) _).alloc (by rw [z2]; omega) _).alloc (by rw [z3]; omega) _).drew, by simp, ?_, ?_, ?_⟩
  · refine (heap_alloc_old _ _ (by rw [z3]; omega)).trans ((heap_alloc_old _ _ (by rw [z2]; omega)).trans ?_)
    exact heap_alloc_new w3 _
  · refine (heap_alloc_old _ _ (by rw [z3]; omega)).trans ?_
    have := heap_alloc_new (w3.alloc (.cells (Array.replicate n (.bool false)) 4)) (.cells (Array.replicate n (.bool false)) 4)
    rw [z2] at this
    exact this
  · have h := heap_alloc_new ((w3.alloc (.cells (Array.replicate n (.bool false)) 4)).alloc (.cells (Array.replicate n (.bool false)) 4)) (.cells (cells7 c).toArray 85)
    rw [z3] at h
    exact World.news_of_block h
theorem rb_end {w w3 w5 w6 : World} {B q n g cap6 : Nat} {F : Nat → Prop} {rv tv : Value} {CL : List RC} {TT : TL} (c : RC) (hB : B ≤ w.heap.size) (H3 : Below w.heap.size w w3) (h3 : RefAt w3 B F q rv tv CL TT) (hF : ∀ k, F k → k < w.heap.size)
    (hnd : w3.ownsRow w.heap.size 5 1 (.slice (some ⟨c.gn, 0, none⟩) (nl c.m) c.cn) (nl c.m) (u8s (nodesI c.m))) (h5 : Five w3 w5 n c) (hm : c.m.v = noF ∧ c.m.a = noF) (hn : nl c.m = n) (hn1 : 1 ≤ n)
    (hgs : (c.gy = w3.heap.size ∧ c.gd = w3.heap.size + 1) ∨ (c.gd = w3.heap.size ∧ c.gy = w3.heap.size + 1)) (hk : InK c.t) (hkn : ∀ d ∈ CL, eqK d.t c.t = false)
    (h6 : w6.ownsRow B 85 7 (.slice (some ⟨g, 0, none⟩) (CL.length + 1) cap6) (CL.length + 1) (CL.flatMap cells7 ++ cells7 c)) (hgr : w5.grownBy w6 rv.ownBlock) (hor : rv.ownBlock = some g ∨ g = w5.heap.size) :
    RDid w B F q (CL.map prj ++ [prj c]) TT (w6.setCell ⟨q, 0, none⟩ (.slice (some ⟨g, 0, none⟩) (CL.length + 1) cap6)) := by
  have hs3 := H3.size
  have qr : rv.ownBlock ≠ some q := fun e => by
    obtain ⟨_, cur, h⟩ := own_obj h3.rrow e
    rw [h3.cell] at h; cases h
  have qh : q < w3.heap.size := h3.hi q h3.fq
  have q5 : w5.heap[q]? = some (.cells #[rv, tv] 30 (0, 0)) := (h5.below.block q qh).trans h3.cell
  have q6 : w6.heap[q]? = some (.cells #[rv, tv] 30 (0, 0)) := (hgr.block q (by rw [h5.size]; omega) (fun e => qr e.symm)).trans q5
  have gq : g ≠ q := fun e => by
    rcases hor with h | h
    · exact qr (by rw [h, e])
    · rw [h5.size] at h; omega
  have k6 : ∀ k, k < w5.heap.size → rv.ownBlock ≠ some k → k ≠ q → (w6.setCell ⟨q, 0, none⟩ (.slice (some ⟨g, 0, none⟩) (CL.length + 1) cap6)).heap[k]? = w5.heap[k]? := fun k h1 h2 h4 => by
    refine Eq.trans ?_ (hgr.block k h1 (fun e => h2 e.symm))
    show (w6.heap.modify q _)[k]? = _
    rw [Array.getElem?_modify, if_neg (fun e => h4 e.symm)]
  have rvF : ∀ k, rv.ownBlock = some k → k < w.heap.size := fun k hk => hF k (h3.fr k hk)
  have hyb : ∀ x, c.gy = x ∨ c.gd = x → x = w3.heap.size ∨ x = w3.heap.size + 1 := fun x hx => by omega
  have nb : ∀ x, x = w3.heap.size ∨ x = w3.heap.size + 1 → (w6.setCell ⟨q, 0, none⟩ (.slice (some ⟨g, 0, none⟩) (CL.length + 1) cap6)).heap[x]? = some (.cells (Array.replicate n (.bool false)) 4 (0, 0)) := fun x hx => by
    refine (k6 x (by rw [h5.size]; omega) (fun e => by have := rvF x e; omega) (by omega)).trans ?_
    rcases hx with rfl | rfl
    · exact h5.y
    · exact h5.d
  have bl : ∀ f, f = noF → (boolsL c.m f).toArray = Array.replicate n (.bool false) := fun f hf => by
    rw [hf, bools_no, hn]; simp
  have ht : Turned (fun k => k = q ∨ rv.ownBlock = some k) w3 (w6.setCell ⟨q, 0, none⟩ (.slice (some ⟨g, 0, none⟩) (CL.length + 1) cap6)) :=
    ((below_any (G := fun k => k = q ∨ rv.ownBlock = some k) h5.below).then (.of_grown hgr (fun k e => .inr e))).then ((turned_set w6 q 0 _).mono (fun k e => .inl e))
  have hgn : w.heap.size ≤ c.gn := (own_obj hnd (g := c.gn) (by simp [Value.ownBlock])).1
  have hA := refat_new (rv' := .slice (some ⟨g, 0, none⟩) (CL.length + 1) cap6) h3 c ((set_block q6).trans (by simp)) (own_on h6 (fun k e => by
      simp [Value.ownBlock] at e
      subst e
      show (w6.heap.modify q _)[g]? = _
      rw [Array.getElem?_modify, if_neg (fun e => gq e.symm)])) ht (own_base (own_on hnd (fun k e => by
      have hk2 := own_obj hnd e
      obtain ⟨hk3, cur, hk4⟩ := hk2
      refine (k6 k (Nat.lt_of_lt_of_le (Array.getElem?_eq_some_iff.1 hk4).1 (by rw [h5.size]; omega)) (fun e2 => by have := rvF k e2; omega) (fun e2 => by rw [e2, h3.cell] at hk4; cases hk4)).trans (h5.below.block k (Array.getElem?_eq_some_iff.1 hk4).1))) hB)
    ((nb _ (by omega)).trans (by rw [bl _ hm.1])) ((nb _ (by omega)).trans (by rw [bl _ hm.2])) (by omega) (fun e => by have := hF _ e; omega) (fun e => by have := hF _ e; omega) (by omega) (by omega) (by omega) hk hkn
  refine ⟨_, ⟨_, _, _, hA, by rw [List.map_append]; rfl⟩, fun k hk => ?_, ?_⟩
  · rcases hk with hk | rfl | rfl | rfl | hk
    · exact .inl hk
    · exact .inr hgn
    · right; omega
    · right; omega
    · simp [Value.ownBlock] at hk
      subst hk
      rcases hor with h | h
      · exact .inl (h3.fr g h)
      · right; rw [h5.size] at h; omega
  · exact (below_any (G := F) H3).then (ht.mono (fun k hk => by
      rcases hk with rfl | hk
      · exact h3.fq
      · exact h3.fr k hk))
set_option maxRecDepth 100000 in
set_option maxHeartbeats 8000000 in
theorem rbegin_new (t : TK) (ao : Option Addr) (l c : Nat) (L : List Int) (w : World) {B q : Nat} {F : Nat → Prop} {rv tv : Value} {CL : List RC} {TT : TL} (h : RefAt w B F q rv tv CL TT)  (hL : L.length = l) (l0 : 0 < l) (l4 : l ≤ 4) (hr : Rd w ao L) (hi : ∀ x ∈ L, 0 ≤ x ∧ x ≤ 255) (hh : ∀ x ∈ L, x ≤ 3) (hn : L.Nodup) (ht : InK t) (hc : ∀ c ∈ CL, eqK c.t t = false) (hcl : CL.length ≤ 1000000) :
    Calls Try.prog 18 #[.pointer (some ⟨q, 0, none⟩), .agg #[.int .u8 t.1, .int .u32 t.2.1, .int .u32 t.2.2], .slice ao l c] w fun e w' => e = .returned (.int .i64 0) ∧ RDid w B F q (CL.map prj ++ [(t, newRun L)]) TT w' := by
  have HH := Lib.hid (And.intro hh hn)
  have HRF := Lib.hid (And.intro (h.below ((Below.refl _ w).alloc (Nat.le_refl _) (.cells #[.int .u8 t.1, .int .u32 t.2.1, .int .u32 t.2.2] 33))) (And.intro hc ht))
  have HFH := Lib.hid h.hi
  obtain ⟨ir, hir0, hir1, hir2, hir3⟩ := info_parts info85
  have HIR := Lib.hid (And.intro hir0 (And.intro hir1 (And.intro hir2 hir3)))
  have HBW := Lib.hid h.base
  clear hh hn h hc ht hir0 hir1 hir2 hir3
  obtain ⟨i0, hi0, hz0, hz1, hz2⟩ := info_parts info5
  have HI := Lib.hid (And.intro hi0 (And.intro hz0 (And.intro hz1 hz2)))
  have HL := Lib.hid (And.intro hL (And.intro (hr.on ((Below.refl _ w).alloc (Nat.le_refl _) (.cells #[.int .u8 t.1, .int .u32 t.2.1, .int .u32 t.2.2] 33)) (Nat.le_refl _)) hi))
  have HB := Lib.hid ((Below.refl _ w).alloc (Nat.le_refl _) (.cells #[.int .u8 t.1, .int .u32 t.2.1, .int .u32 t.2.2] 33))
  have HX := Lib.hid (box3 w t)
  have e1 : decide ((l : Int) < 1) = false := by simp; omega
  clear hi0 hz0 hz1 hz2 hL hr hi
  go_enter Try.func18, Try.ntmps18
  go_wp2
  generalize w.alloc (.cells #[.int .u8 t.1, .int .u32 t.2.1, .int .u32 t.2.2] 33) = W0 at HL HB HX HRF ⊢
  have H0 := Lib.hid (show RisI L W0 0 (.slice none 0 0) W0 from ⟨World.ownsRow_nil _ _ _ _, Below.refl _ _⟩)
  go_loopw [7, 8] (fun v u wr => ∃ k : Nat, k ≤ 4 ∧ u = .int .u8 k ∧ Hid (RisI L W0 k v wr)) (fun _ u _ => 4 - (intOf u).toNat)
  case atStart => exact ⟨0, by omega, rfl, H0⟩
  case round =>
    obtain ⟨k, hk, rfl, HR⟩ := hrel
    clear H0
    obtain ⟨lo, cap2, ev, _, _⟩ := own_slice HR.out.1
    subst ev
    by_cases hlt : k < 4
    · have hsuc := risk_succ L k
      have hlen := risk_len L k
      have HSU := Lib.hid hsuc
      obtain ⟨rl, hrl⟩ : ∃ rl, risk L k = rl := ⟨_, rfl⟩
      have HLL := Lib.hid hrl
      have HO := Lib.hid (show wr.ownsRow W0.heap.size 5 1 (.slice lo rl.length cap2) rl.length (u8s rl) from by have h2 := HR.out.1; rw [HLL.out] at h2; exact h2)
      have HWB := Lib.hid HR.out.2
      rw [hrl] at hlen ⊢
      clear hsuc hrl
      have HK0 := Lib.hid (show ∀ (j : Nat) (y : Int), j < 0 → L[j]? = some y → y ≠ (k : Int) from fun j y hj => by omega)
      go_wp2
      go_loop [7, 27] (fun x u => ∃ i : Nat, i ≤ l ∧ x = .slice lo rl.length cap2 ∧ u = .int .i64 i ∧ Hid (∀ (j : Nat) (y : Int), j < i → L[j]? = some y → y ≠ (k : Int))) (fun _ u => l - (intOf u).toNat)
      case atStart => exact ⟨0, by omega, rfl, rfl, HK0⟩
      case round =>
        obtain ⟨i, hil, rfl, rfl, HK⟩ := hrel
        clear HK0
        by_cases hil2 : i < l
        · obtain ⟨y, hy⟩ : ∃ y, L[i]? = some y := ⟨_, List.getElem?_eq_getElem (by have := HL.out.1; omega)⟩
          obtain ⟨b, off, rfl, _, ck⟩ := (HL.out.2.1.on HWB.out (Nat.le_refl _)) i y hy
          have HY := Lib.hid hy
          by_cases hyk : y = (k : Int)
          · have hb : (y == (k : Int)) = true := by simpa using hyk
            have HM := Lib.hid (show memF L k = true from by unfold memF; rw [List.contains_iff_mem, ← hyk]; exact List.mem_of_getElem? hy)
            clear hy hyk
            go_wp2_with (at_builtin; refine wpList_append_own _ rfl (.tmp 34) (.tmp 36) 34 rfl W0.heap.size 5 i0 _ 1 1 Try.underlying34 HI.out.1 HI.out.2.1 HI.out.2.2.1 HI.out.2.2.2 rfl (by decide) (.slice lo rl.length cap2) rl.length (u8s rl) rfl (HO.out.alloc _) ⟨wr.heap.size, 0, none⟩ 1 1 [.int .u8 k] rfl rfl (new1 _ wr 5) (one_u8 _) (by unfold maxLen; omega) (by omega) (by have := HWB.out.size; simp; omega) ?_; intro v3 w3 hown3 hgrow3 hnil3; have HG := Lib.hid (And.intro hown3 hgrow3); clear hown3 hgrow3 hnil3)
            go_roundw
            case measure => simp [intOf]; omega
            case rel =>
              refine ⟨k + 1, by omega, by go_num, Lib.hid ?_⟩
              have h := HSU.out
              rw [HLL.out, if_pos HM.out] at h
              refine ⟨?_, (HWB.out.alloc HWB.out.size (.cells #[.int .u8 k] 5)).grown HG.out.2 (by have := HWB.out.size; simp; omega) (fun q e => (own_obj HO.out e).1)⟩
              rw [h]
              have h6 := HG.out.1
              simpa [u8s] using h6
          · have hb : (y == (k : Int)) = false := by simpa using hyk
            have HN := Lib.hid (show ∀ (j : Nat) (z : Int), j < i + 1 → L[j]? = some z → z ≠ (k : Int) from fun j z hj hz => by
              by_cases e : j = i
              · subst e; rw [hy] at hz; cases hz; exact hyk
              · exact HK.out j z (by omega) hz)
            clear hy hyk
            go_wp2
            go_round
            case rel => exact ⟨i + 1, by omega, rfl, by go_num, HN⟩
            case measure => simp [intOf]; omega
        · have HM := Lib.hid (show memF L k = false from by
            cases hq : memF L k
            · rfl
            · unfold memF at hq
              rw [List.contains_iff_mem] at hq
              obtain ⟨j, hj⟩ := List.getElem?_of_mem hq
              have := (List.getElem?_eq_some_iff.1 hj).1
              exact absurd rfl (HK.out j _ (by have := HL.out.1; omega) hj))
          go_wp2
          go_roundw
          case measure => simp [intOf]; omega
          case rel =>
            refine ⟨k + 1, by omega, by go_num, Lib.hid ?_⟩
            have h := HSU.out
            rw [HLL.out, HM.out] at h
            refine ⟨?_, HWB.out⟩
            rw [h]
            simpa using HO.out
    · obtain rfl : k = 4 := by omega
      obtain ⟨R, hR⟩ : ∃ R, risk L 4 = R := ⟨_, rfl⟩
      have HRR := Lib.hid hR
      have HO := Lib.hid (show wr.ownsRow W0.heap.size 5 1 (.slice lo R.length cap2) R.length (u8s R) from by have h2 := HR.out.1; rw [HRR.out] at h2; exact h2)
      have HWB := Lib.hid HR.out.2
      have hrn : R.length ≤ 4 := by rw [← hR]; exact risk_len L 4
      rw [hR]
      clear hR
      go_wp2
      go_loop [41] (fun u => ∃ i : Nat, i ≤ l ∧ u = .int .i64 i ∧ Hid (∀ (j : Nat) (y : Int), j < i → L[j]? = some y → y ≤ 3)) (fun u => l - (intOf u).toNat)
      case atStart => exact ⟨0, by omega, rfl, Lib.hid (fun j y hj => by omega)⟩
      case round =>
        obtain ⟨i, hil, rfl, HK⟩ := hrel
        by_cases hil2 : i < l
        · obtain ⟨y, hy⟩ : ∃ y, L[i]? = some y := ⟨_, List.getElem?_eq_getElem (by have := HL.out.1; omega)⟩
          obtain ⟨b, off, rfl, _, ck⟩ := (HL.out.2.1.on HWB.out (Nat.le_refl _)) i y hy
          have HY := Lib.hid hy
          by_cases hy3 : 3 < y
          · have hb : decide (y > 3) = true := by simpa using hy3
            clear hy
            exfalso
            have := HH.out.1 y (List.mem_of_getElem? HY.out)
            omega
          · have hb : decide (y > 3) = false := by simp; omega
            have HN := Lib.hid (show ∀ (j : Nat) (z : Int), j < i + 1 → L[j]? = some z → z ≤ 3 from fun j z hj hz => by
              by_cases e : j = i
              · subst e; rw [hy] at hz; cases hz; omega
              · exact HK.out j z (by omega) hz)
            clear hy
            go_wp2
            go_round
            case rel => exact ⟨i + 1, by omega, by go_num, HN⟩
            case measure => simp [intOf]; omega
        · obtain rfl : i = l := by omega
          have HA := Lib.hid (show ∀ y ∈ L, y ≤ 3 from fun y hy => by
            obtain ⟨j, hj⟩ := List.getElem?_of_mem hy
            exact HK.out j y (by have := (List.getElem?_eq_some_iff.1 hj).1; rw [HL.out.1] at this; exact this) hj)
          have hlt2 : R.length = i := by
            have h1 := cnt_mem L (fun x hx => ⟨(HL.out.2.2 x hx).1, HA.out x hx⟩)
            have h2 := risk_cnt L
            rw [HRR.out] at h2
            rw [HL.out.1] at h1
            have := h1.2.2 HH.out.2
            omega
          have hge : i ≤ R.length := by omega
          have HLT := Lib.hid hlt2
          clear hlt2
          obtain ⟨b0, b1, b2⟩ := Below.cell3 HWB.out (World.block_lt_of_cell? W0 ⟨w.heap.size, 0, none⟩ HX.out.1) HX.out
          have HRF2 := Lib.hid (HRF.out.1.below HWB.out)
          go_upto_region 25 with (go_at_call 38; refine (run_miss HRF2.out HRF.out.2.1 hcl).mono ?_; rintro e w3 ⟨rfl, hb3⟩; have H3 := Lib.hid (HB.out.trans ((HWB.out.trans (hb3.mono HWB.out.size)).mono HB.out.size)); have H4 := Lib.hid (And.intro (HRF2.out.below hb3) (own_on HO.out (fun g hg => hb3.block g (World.ownsRow.lt HO.out g hg).2))); have b3 := Below.cell3 hb3 (World.block_lt_of_cell? wr ⟨w.heap.size, 0, none⟩ b0) ⟨b0, b1, b2⟩; clear hb3)
          have hq0 := H4.out.1.cells.1
          obtain ⟨x0, x1, x2⟩ := b3
          have hsz : w.heap.size < w3.heap.size := World.block_lt_of_cell? w3 ⟨w.heap.size, 0, none⟩ x0
          obtain ⟨gn, rfl⟩ : ∃ gn, lo = some ⟨gn, 0, none⟩ := by
            obtain ⟨ao2, cap3, e, _, h2⟩ := own_slice HO.out
            simp only [Value.slice.injEq] at e
            obtain ⟨rfl, _, _⟩ := e
            obtain ⟨x, hx⟩ : ∃ x, (u8s R)[0]? = some x := ⟨_, List.getElem?_eq_getElem (by rw [u8s_len]; have := HLT.out; omega)⟩
            obtain ⟨g, e, _⟩ := h2 0 x hx
            exact ⟨g, e⟩
          obtain ⟨n, hn⟩ : ∃ n, R.length = n := ⟨_, rfl⟩
          have n1 : 1 ≤ n := by have := HLT.out; omega
          have n4 : n ≤ 4 := by omega
          have HN := Lib.hid (show nl (newRun L) = n from by rw [← hn, ← HRR.out, risk_nodes]; exact (nodesI_len _).symm)
          have HND := Lib.hid (show w3.ownsRow w.heap.size 5 1 (.slice (some ⟨gn, 0, none⟩) (nl (newRun L)) cap2) (nl (newRun L)) (u8s (nodesI (newRun L))) from by
            have h := H4.out.2
            rw [← risk_nodes, HRR.out, HN.out, ← hn]
            exact own_base h HB.out.size)
          rw [hn]
          clear hn b0 b1 b2
          refine wp_region_held_drew (S := (fun w' => (w'.cell? ⟨w.heap.size, 0, none⟩ = some (.int .u8 t.1) ∧ w'.cell? ⟨w.heap.size, 1, none⟩ = some (.int .u32 t.2.1) ∧ w'.cell? ⟨w.heap.size, 2, none⟩ = some (.int .u32 t.2.2)))) (by kernel_rfl) ⟨x0, x1, x2⟩ (fun hHeld => ?_)
          refine wpAnyH_take (i := 0) (oi := { dst := some 59, op := Op.move (Operand.tmp 0), type := 26, pos := "ref.go:107", after := #[], guard := none }) (v := ?_) rfl (by kernel_rfl) (by kernel_rfl) (by kernel_rfl) (fun _ _ _ h => h) (Or.inl ⟨by rfl, ?_⟩) (by assumption) ?_
          rotate_left
          focus (intro w' hSw; (try dsimp only at hSw); go_simp; try with_reducible rfl)
          try simp only [Act.put, List.setIfInBounds_toArray, List.set_cons_zero, List.set_cons_succ]
          refine wpAnyH_take (i := 1) (oi := { dst := some 60, op := Op.move (Operand.tmp 0), type := 26, pos := "ref.go:107", after := #[], guard := none }) (v := ?_) rfl (by kernel_rfl) (by kernel_rfl) (by kernel_rfl) (fun _ _ _ h => h) (Or.inl ⟨by rfl, ?_⟩) (by assumption) ?_
          rotate_left
          focus (intro w' hSw; (try dsimp only at hSw); go_simp; try with_reducible rfl)
          try simp only [Act.put, List.setIfInBounds_toArray, List.set_cons_zero, List.set_cons_succ]
          refine wpAnyH_take (i := 2) (oi := { dst := some 61, op := Op.nilCheck (Operand.tmp 60), type := 0, pos := "ref.go:107", after := #[{ on := 1, ground := Ground.data }], guard := none }) (v := ?_) rfl (by kernel_rfl) (by kernel_rfl) (by kernel_rfl) (fun _ _ _ h => h) (Or.inl ⟨by rfl, ?_⟩) (by assumption) ?_
          rotate_left
          focus (intro w' hSw; (try dsimp only at hSw); go_simp; try with_reducible rfl)
          try simp only [Act.put, List.setIfInBounds_toArray, List.set_cons_zero, List.set_cons_succ]
          refine wpAnyH_take (i := 3) (oi := { dst := some 62, op := Op.fieldAddr 30 (Operand.tmp 61) 0, type := 0, pos := "ref.go:107", after := #[{ on := 2, ground := Ground.data }], guard := none }) (v := ?_) rfl (by kernel_rfl) (by kernel_rfl) (by kernel_rfl) (fun _ _ _ h => h) (Or.inl ⟨by rfl, ?_⟩) (by assumption) ?_
          rotate_left
          focus (intro w' hSw; (try dsimp only at hSw); go_simp; try with_reducible rfl)
          try simp only [Act.put, List.setIfInBounds_toArray, List.set_cons_zero, List.set_cons_succ]
          refine wpAnyH_take (i := 5) (oi := { dst := some 64, op := Op.load 33 (Operand.tmp 4), type := 33, pos := "ref.go:107", after := #[], guard := none }) (v := ?_) rfl (by kernel_rfl) (by kernel_rfl) (by kernel_rfl) (fun _ _ _ h => h) (Or.inl ⟨by rfl, ?_⟩) (by assumption) ?_
          rotate_left
          focus (intro w' hSw; (try dsimp only at hSw); go_simp; try with_reducible rfl)
          try simp only [Act.put, List.setIfInBounds_toArray, List.set_cons_zero, List.set_cons_succ]
          refine wpAnyH_take (i := 6) (oi := { dst := some 65, op := Op.move (Operand.tmp 7), type := 34, pos := "ref.go:107", after := #[], guard := none }) (v := ?_) rfl (by kernel_rfl) (by kernel_rfl) (by kernel_rfl) (fun _ _ _ h => h) (Or.inl ⟨by rfl, ?_⟩) (by assumption) ?_
          rotate_left
          focus (intro w' hSw; (try dsimp only at hSw); go_simp; try with_reducible rfl)
          try simp only [Act.put, List.setIfInBounds_toArray, List.set_cons_zero, List.set_cons_succ]
          refine wpAnyH_take (i := 7) (oi := { dst := some 66, op := Op.move (Operand.tmp 7), type := 34, pos := "ref.go:107", after := #[], guard := none }) (v := ?_) rfl (by kernel_rfl) (by kernel_rfl) (by kernel_rfl) (fun _ _ _ h => h) (Or.inl ⟨by rfl, ?_⟩) (by assumption) ?_
          rotate_left
          focus (intro w' hSw; (try dsimp only at hSw); go_simp; try with_reducible rfl)
          try simp only [Act.put, List.setIfInBounds_toArray, List.set_cons_zero, List.set_cons_succ]
          refine wpAnyH_take (i := 8) (oi := { dst := some 67, op := Op.call { callee := Callee.builtin Builtin.len, args := #[Operand.tmp 66], argTypes := #[34] }, type := 3, pos := "ref.go:107", after := #[{ on := 7, ground := Ground.data }], guard := none }) (v := ?_) rfl (by kernel_rfl) (by kernel_rfl) (by kernel_rfl) (fun _ _ _ h => h) (Or.inl ⟨by rfl, ?_⟩) (by assumption) ?_
          rotate_left
          focus (intro w' hSw; (try dsimp only at hSw); go_simp; try with_reducible rfl)
          try simp only [Act.put, List.setIfInBounds_toArray, List.set_cons_zero, List.set_cons_succ]
          refine wpAnyH_take (i := 10) (oi := { dst := some 69, op := Op.move (Operand.tmp 7), type := 34, pos := "ref.go:107", after := #[], guard := none }) (v := ?_) rfl (by kernel_rfl) (by kernel_rfl) (by kernel_rfl) (fun _ _ _ h => h) (Or.inl ⟨by rfl, ?_⟩) (by assumption) ?_
          rotate_left
          focus (intro w' hSw; (try dsimp only at hSw); go_simp; try with_reducible rfl)
          try simp only [Act.put, List.setIfInBounds_toArray, List.set_cons_zero, List.set_cons_succ]
          refine wpAnyH_take (i := 11) (oi := { dst := some 70, op := Op.call { callee := Callee.builtin Builtin.len, args := #[Operand.tmp 69], argTypes := #[34] }, type := 3, pos := "ref.go:107", after := #[{ on := 10, ground := Ground.data }], guard := none }) (v := ?_) rfl (by kernel_rfl) (by kernel_rfl) (by kernel_rfl) (fun _ _ _ h => h) (Or.inl ⟨by rfl, ?_⟩) (by assumption) ?_
          rotate_left
          focus (intro w' hSw; (try dsimp only at hSw); go_simp; try with_reducible rfl)
          try simp only [Act.put, List.setIfInBounds_toArray, List.set_cons_zero, List.set_cons_succ]
          refine wpAnyH_ready (rs := [4, 9, 12]) (by kernel_rfl) (by simp) ?_
          refine (AllReadyH.cons (o := { dst := some 63, op := Op.load 27 (Operand.tmp 62), type := 27, pos := "ref.go:107", after := #[{ on := 3, ground := Ground.data }], guard := none }) rfl (fun K hK => ?_) (AllReadyH.cons (o := { dst := some 68, op := Op.makeSlice 83 (Operand.tmp 67) (Operand.tmp 67), type := 83, pos := "ref.go:107", after := #[{ on := 8, ground := Ground.data }, { on := 8, ground := Ground.data }], guard := none }) rfl (fun K hK => ?_) (AllReadyH.cons (o := { dst := some 71, op := Op.makeSlice 83 (Operand.tmp 70) (Operand.tmp 70), type := 83, pos := "ref.go:107", after := #[{ on := 11, ground := Ground.data }, { on := 11, ground := Ground.data }], guard := none }) rfl (fun K hK => ?_) AllReadyH.nil)))
          · refine step_turns rfl (exec_load1 rfl (agg27 _) rfl hq0) ?_
            refine hK.out _ _ (by go_keep) (fun hHeld => ?_)
            clear hK K
            try simp only [Act.put, List.setIfInBounds_toArray, List.set_cons_zero, List.set_cons_succ]
            refine wpAnyH_ready (rs := [9, 12]) (by kernel_rfl) (by simp) ?_
            refine (AllReadyH.cons (o := { dst := some 68, op := Op.makeSlice 83 (Operand.tmp 67) (Operand.tmp 67), type := 83, pos := "ref.go:107", after := #[{ on := 8, ground := Ground.data }, { on := 8, ground := Ground.data }], guard := none }) rfl (fun K hK => ?_) (AllReadyH.cons (o := { dst := some 71, op := Op.makeSlice 83 (Operand.tmp 70) (Operand.tmp 70), type := 83, pos := "ref.go:107", after := #[{ on := 11, ground := Ground.data }, { on := 11, ground := Ground.data }], guard := none }) rfl (fun K hK => ?_) AllReadyH.nil))
            · refine step_turns rfl (exec_make (n := n) rfl rfl rfl n1 n4 _) ?_
              refine hK.out _ _ (by go_keep) (fun hHeld => ?_)
              clear hK K
              try simp only [Act.put, List.setIfInBounds_toArray, List.set_cons_zero, List.set_cons_succ]
              refine wpAnyH_ready (rs := [12]) (by kernel_rfl) (by simp) ?_
              refine (AllReadyH.cons (o := { dst := some 71, op := Op.makeSlice 83 (Operand.tmp 70) (Operand.tmp 70), type := 83, pos := "ref.go:107", after := #[{ on := 11, ground := Ground.data }, { on := 11, ground := Ground.data }], guard := none }) rfl (fun K hK => ?_) AllReadyH.nil)
              refine step_turns rfl (exec_make (n := n) rfl rfl rfl n1 n4 _) ?_
              refine hK.out _ _ (by go_keep) (fun hHeld => ?_)
              clear hK K
              try simp only [Act.put, List.setIfInBounds_toArray, List.set_cons_zero, List.set_cons_succ]
              have hbd := build85 t.1 t.2.1 t.2.2 ⟨gn, 0, none⟩ ⟨w3.heap.size, 0, none⟩ ⟨(w3.heap.size + 1), 0, none⟩ n cap2 n n n n
              refine wpAnyH_take (i := 13) (oi := { dst := some 72, op := Op.build 85 #[(0, Operand.tmp 64), (1, Operand.tmp 65), (2, Operand.tmp 68), (3, Operand.tmp 71), (4, Operand.const (Value.int IntKind.i64 1))], type := 85, pos := "ref.go:107", after := #[{ on := 5, ground := Ground.data }, { on := 6, ground := Ground.data }, { on := 9, ground := Ground.data }, { on := 12, ground := Ground.data }], guard := none }) (v := ?_) rfl (by kernel_rfl) (by kernel_rfl) (by kernel_rfl) (fun _ _ _ h => h) (Or.inl ⟨by rfl, ?_⟩) (by assumption) ?_
              rotate_left
              focus (intro w' hSw; (try dsimp only at hSw); go_simp; try with_reducible rfl)
              try simp only [Act.put, List.setIfInBounds_toArray, List.set_cons_zero, List.set_cons_succ]
              refine wpAnyH_ready (rs := [14]) (by kernel_rfl) (by simp) ?_
              refine (AllReadyH.cons (o := { dst := some 73, op := Op.buildSlice 27 1 #[(0, Operand.tmp 72)], type := 27, pos := "ref.go:107", after := #[{ on := 13, ground := Ground.data }], guard := none }) rfl (fun K hK => ?_) AllReadyH.nil)
              go_simp
              refine hK.out _ _ ⟨cell_old (cell_old (cell_old x0)), cell_old (cell_old (cell_old x1)), cell_old (cell_old (cell_old x2))⟩ (fun hHeld => ?_)
              clear hK K
              try simp only [Act.put, List.setIfInBounds_toArray, List.set_cons_zero, List.set_cons_succ]
              have hf := five w3 n (RC.mk t gn cap2 w3.heap.size (w3.heap.size + 1) (newRun L))
              rw [show (cells7 (RC.mk t gn cap2 w3.heap.size (w3.heap.size + 1) (newRun L))).toArray = #[Value.int .u8 t.1, .int .u32 t.2.1, .int .u32 t.2.2, .slice (some ⟨gn, 0, none⟩) n cap2, .slice (some ⟨w3.heap.size, 0, none⟩) n n, .slice (some ⟨(w3.heap.size + 1), 0, none⟩) n n, .int .i64 1] from by unfold cells7; simp only [HN.out]; rfl] at hf
              have HF5 := Lib.hid hf
              clear hf hbd
              generalize (((w3.alloc (.cells (Array.replicate n (.bool false)) 4)).alloc (.cells (Array.replicate n (.bool false)) 4)).alloc (.cells #[Value.int .u8 t.1, .int .u32 t.2.1, .int .u32 t.2.2, .slice (some ⟨gn, 0, none⟩) n cap2, .slice (some ⟨w3.heap.size, 0, none⟩) n n, .slice (some ⟨(w3.heap.size + 1), 0, none⟩) n n, .int .i64 1] 85)).drew = w5 at HF5 hHeld ⊢
              have q5 : w5.cell? ⟨q, 0, none⟩ = some rv := (HF5.out.below.cell (p := ⟨q, 0, none⟩) (H4.out.1.hi q H4.out.1.fq)).trans hq0
              refine wpAnyH_ready (rs := [15]) (by kernel_rfl) (by simp) ?_
              refine AllReadyH.cons (o := { dst := some 74, op := Op.call { callee := Callee.builtin Builtin.append, args := #[Operand.tmp 63, Operand.tmp 73], argTypes := #[27, 27] }, type := 27, pos := "ref.go:107", after := #[{ on := 4, ground := Ground.data }, { on := 14, ground := Ground.data }], guard := none }) rfl (fun K hK => ?_) AllReadyH.nil
              have h5 := H4.out.1.below HF5.out.below
              refine step_append_lies _ rfl (.tmp 63) (.tmp 73) 27 rfl B 85 ir _ 7 96 Try.underlying27 HIR.out.1 HIR.out.2.1 HIR.out.2.2.1 HIR.out.2.2.2 rfl (by decide) rv CL.length (CL.flatMap cells7) rfl h5.rrow _ 1 1 (cells7 (RC.mk t gn cap2 w3.heap.size (w3.heap.size + 1) (newRun L))) rfl rfl HF5.out.news (one7 _) (by decide) (by unfold maxLen; omega) (by omega) h5.base _ rfl (fun g cap6 w6 hown6 hgrow6 hor6 _ => ?_)
              have HE := Lib.hid (rb_end (q := q) (RC.mk t gn cap2 w3.heap.size (w3.heap.size + 1) (newRun L)) HBW.out H3.out H4.out.1 HFH.out HND.out HF5.out ⟨rfl, rfl⟩ HN.out n1 (by first | exact .inl ⟨rfl, rfl⟩ | exact .inr ⟨rfl, rfl⟩) HRF.out.2.2 HRF.out.2.1 hown6 hgrow6 hor6)
              have hbr : rv.ownBlock ≠ some w.heap.size := fun e => Nat.lt_irrefl _ (HFH.out _ (H4.out.1.fr _ e))
              have hqr : rv.ownBlock ≠ some q := fun e => by
                obtain ⟨_, cur, h⟩ := own_obj H4.out.1.rrow e
                rw [H4.out.1.cell] at h; cases h
              refine hK.out _ _ ⟨grown_cell2 hgrow6 hbr hHeld.1, grown_cell2 hgrow6 hbr hHeld.2.1, grown_cell2 hgrow6 hbr hHeld.2.2⟩ (fun hHeld => ?_)
              clear hK K
              try simp only [Act.put, List.setIfInBounds_toArray, List.set_cons_zero, List.set_cons_succ]
              have q6 := grown_cell2 hgrow6 hqr q5
              have f6 : w6.frozen? ⟨q, 0, none⟩ = false := by
                have h7 := (hgrow6.block q (World.block_lt_of_cell? w5 ⟨q, 0, none⟩ q5) (fun e => hqr e.symm)).trans h5.cell
                simp [World.frozen?, h7]
              clear hown6 hgrow6 hor6 h5
              refine wpAnyH_take (i := 16) (oi := { dst := some 75, op := Op.nilCheck (Operand.tmp 59), type := 0, pos := "ref.go:107", after := #[{ on := 0, ground := Ground.data }, { on := 0, ground := Ground.phase }, { on := 1, ground := Ground.phase }, { on := 2, ground := Ground.phase }, { on := 3, ground := Ground.phase }, { on := 4, ground := Ground.phase }, { on := 5, ground := Ground.phase }, { on := 6, ground := Ground.phase }, { on := 7, ground := Ground.phase }, { on := 8, ground := Ground.phase }, { on := 9, ground := Ground.phase }, { on := 10, ground := Ground.phase }, { on := 11, ground := Ground.phase }, { on := 12, ground := Ground.phase }, { on := 13, ground := Ground.phase }, { on := 14, ground := Ground.phase }, { on := 15, ground := Ground.phase }], guard := none }) (v := ?_) rfl (by kernel_rfl) (by kernel_rfl) (by kernel_rfl) (fun _ _ _ h => h) (Or.inl ⟨by rfl, ?_⟩) (by assumption) ?_
              rotate_left
              focus (intro w' hSw; (try dsimp only at hSw); go_simp; try with_reducible rfl)
              try simp only [Act.put, List.setIfInBounds_toArray, List.set_cons_zero, List.set_cons_succ]
              refine wpAnyH_take (i := 17) (oi := { dst := some 76, op := Op.fieldAddr 30 (Operand.tmp 75) 0, type := 0, pos := "ref.go:107", after := #[{ on := 16, ground := Ground.data }, { on := 0, ground := Ground.phase }, { on := 1, ground := Ground.phase }, { on := 2, ground := Ground.phase }, { on := 3, ground := Ground.phase }, { on := 4, ground := Ground.phase }, { on := 5, ground := Ground.phase }, { on := 6, ground := Ground.phase }, { on := 7, ground := Ground.phase }, { on := 8, ground := Ground.phase }, { on := 9, ground := Ground.phase }, { on := 10, ground := Ground.phase }, { on := 11, ground := Ground.phase }, { on := 12, ground := Ground.phase }, { on := 13, ground := Ground.phase }, { on := 14, ground := Ground.phase }, { on := 15, ground := Ground.phase }], guard := none }) (v := ?_) rfl (by kernel_rfl) (by kernel_rfl) (by kernel_rfl) (fun _ _ _ h => h) (Or.inl ⟨by rfl, ?_⟩) (by assumption) ?_
              rotate_left
              focus (intro w' hSw; (try dsimp only at hSw); go_simp; try with_reducible rfl)
              try simp only [Act.put, List.setIfInBounds_toArray, List.set_cons_zero, List.set_cons_succ]
              refine wpAnyH_ready (rs := [18]) (by kernel_rfl) (by simp) ?_
              refine AllReadyH.cons (o := { dst := none, op := Op.store 27 (Operand.tmp 76) (Operand.tmp 74), type := 0, pos := "ref.go:107", after := #[{ on := 17, ground := Ground.data }, { on := 15, ground := Ground.data }, { on := 15, ground := Ground.chain }, { on := 0, ground := Ground.phase }, { on := 1, ground := Ground.phase }, { on := 2, ground := Ground.phase }, { on := 3, ground := Ground.phase }, { on := 4, ground := Ground.phase }, { on := 5, ground := Ground.phase }, { on := 6, ground := Ground.phase }, { on := 7, ground := Ground.phase }, { on := 8, ground := Ground.phase }, { on := 9, ground := Ground.phase }, { on := 10, ground := Ground.phase }, { on := 11, ground := Ground.phase }, { on := 12, ground := Ground.phase }, { on := 13, ground := Ground.phase }, { on := 14, ground := Ground.phase }, { on := 15, ground := Ground.phase }], guard := none }) rfl (fun K hK => ?_) AllReadyH.nil
              go_simp
              have hqb : q ≠ w.heap.size := Nat.ne_of_lt (HFH.out q H4.out.1.fq)
              refine hK.out _ _ ⟨(World.cell?_setCell_far w6 ⟨q, 0, none⟩ ⟨w.heap.size, 0, none⟩ _ hqb).trans hHeld.1, (World.cell?_setCell_far w6 ⟨q, 0, none⟩ ⟨w.heap.size, 1, none⟩ _ hqb).trans hHeld.2.1, (World.cell?_setCell_far w6 ⟨q, 0, none⟩ ⟨w.heap.size, 2, none⟩ _ hqb).trans hHeld.2.2⟩ (fun hHeld => ?_)
              clear hK K
              refine wpAnyH_done (by kernel_rfl) ?_ _
              go_wp2
              go_ret
              exact ⟨rfl, HE.out⟩
            · refine step_turns rfl (exec_make (n := n) rfl rfl rfl n1 n4 _) ?_
              refine hK.out _ _ (by go_keep) (fun hHeld => ?_)
              clear hK K
              try simp only [Act.put, List.setIfInBounds_toArray, List.set_cons_zero, List.set_cons_succ]
              refine wpAnyH_ready (rs := [9]) (by kernel_rfl) (by simp) ?_
              refine (AllReadyH.cons (o := { dst := some 68, op := Op.makeSlice 83 (Operand.tmp 67) (Operand.tmp 67), type := 83, pos := "ref.go:107", after := #[{ on := 8, ground := Ground.data }, { on := 8, ground := Ground.data }], guard := none }) rfl (fun K hK => ?_) AllReadyH.nil)
              refine step_turns rfl (exec_make (n := n) rfl rfl rfl n1 n4 _) ?_
              refine hK.out _ _ (by go_keep) (fun hHeld => ?_)
              clear hK K
              try simp only [Act.put, List.setIfInBounds_toArray, List.set_cons_zero, List.set_cons_succ]
              have hbd := build85 t.1 t.2.1 t.2.2 ⟨gn, 0, none⟩ ⟨(w3.heap.size + 1), 0, none⟩ ⟨w3.heap.size, 0, none⟩ n cap2 n n n n
              refine wpAnyH_take (i := 13) (oi := { dst := some 72, op := Op.build 85 #[(0, Operand.tmp 64), (1, Operand.tmp 65), (2, Operand.tmp 68), (3, Operand.tmp 71), (4, Operand.const (Value.int IntKind.i64 1))], type := 85, pos := "ref.go:107", after := #[{ on := 5, ground := Ground.data }, { on := 6, ground := Ground.data }, { on := 9, ground := Ground.data }, { on := 12, ground := Ground.data }], guard := none }) (v := ?_) rfl (by kernel_rfl) (by kernel_rfl) (by kernel_rfl) (fun _ _ _ h => h) (Or.inl ⟨by rfl, ?_⟩) (by assumption) ?_
              rotate_left
              focus (intro w' hSw; (try dsimp only at hSw); go_simp; try with_reducible rfl)
              try simp only [Act.put, List.setIfInBounds_toArray, List.set_cons_zero, List.set_cons_succ]
              refine wpAnyH_ready (rs := [14]) (by kernel_rfl) (by simp) ?_
              refine (AllReadyH.cons (o := { dst := some 73, op := Op.buildSlice 27 1 #[(0, Operand.tmp 72)], type := 27, pos := "ref.go:107", after := #[{ on := 13, ground := Ground.data }], guard := none }) rfl (fun K hK => ?_) AllReadyH.nil)
              go_simp
              refine hK.out _ _ ⟨cell_old (cell_old (cell_old x0)), cell_old (cell_old (cell_old x1)), cell_old (cell_old (cell_old x2))⟩ (fun hHeld => ?_)
              clear hK K
              try simp only [Act.put, List.setIfInBounds_toArray, List.set_cons_zero, List.set_cons_succ]
              have hf := five w3 n (RC.mk t gn cap2 (w3.heap.size + 1) w3.heap.size (newRun L))
              rw [show (cells7 (RC.mk t gn cap2 (w3.heap.size + 1) w3.heap.size (newRun L))).toArray = #[Value.int .u8 t.1, .int .u32 t.2.1, .int .u32 t.2.2, .slice (some ⟨gn, 0, none⟩) n cap2, .slice (some ⟨(w3.heap.size + 1), 0, none⟩) n n, .slice (some ⟨w3.heap.size, 0, none⟩) n n, .int .i64 1] from by unfold cells7; simp only [HN.out]; rfl] at hf
              have HF5 := Lib.hid hf
              clear hf hbd
              generalize (((w3.alloc (.cells (Array.replicate n (.bool false)) 4)).alloc (.cells (Array.replicate n (.bool false)) 4)).alloc (.cells #[Value.int .u8 t.1, .int .u32 t.2.1, .int .u32 t.2.2, .slice (some ⟨gn, 0, none⟩) n cap2, .slice (some ⟨(w3.heap.size + 1), 0, none⟩) n n, .slice (some ⟨w3.heap.size, 0, none⟩) n n, .int .i64 1] 85)).drew = w5 at HF5 hHeld ⊢
              have q5 : w5.cell? ⟨q, 0, none⟩ = some rv := (HF5.out.below.cell (p := ⟨q, 0, none⟩) (H4.out.1.hi q H4.out.1.fq)).trans hq0
              refine wpAnyH_ready (rs := [15]) (by kernel_rfl) (by simp) ?_
              refine AllReadyH.cons (o := { dst := some 74, op := Op.call { callee := Callee.builtin Builtin.append, args := #[Operand.tmp 63, Operand.tmp 73], argTypes := #[27, 27] }, type := 27, pos := "ref.go:107", after := #[{ on := 4, ground := Ground.data }, { on := 14, ground := Ground.data }], guard := none }) rfl (fun K hK => ?_) AllReadyH.nil
              have h5 := H4.out.1.below HF5.out.below
              refine step_append_lies _ rfl (.tmp 63) (.tmp 73) 27 rfl B 85 ir _ 7 96 Try.underlying27 HIR.out.1 HIR.out.2.1 HIR.out.2.2.1 HIR.out.2.2.2 rfl (by decide) rv CL.length (CL.flatMap cells7) rfl h5.rrow _ 1 1 (cells7 (RC.mk t gn cap2 (w3.heap.size + 1) w3.heap.size (newRun L))) rfl rfl HF5.out.news (one7 _) (by decide) (by unfold maxLen; omega) (by omega) h5.base _ rfl (fun g cap6 w6 hown6 hgrow6 hor6 _ => ?_)
              have HE := Lib.hid (rb_end (q := q) (RC.mk t gn cap2 (w3.heap.size + 1) w3.heap.size (newRun L)) HBW.out H3.out H4.out.1 HFH.out HND.out HF5.out ⟨rfl, rfl⟩ HN.out n1 (by first | exact .inl ⟨rfl, rfl⟩ | exact .inr ⟨rfl, rfl⟩) HRF.out.2.2 HRF.out.2.1 hown6 hgrow6 hor6)
              have hbr : rv.ownBlock ≠ some w.heap.size := fun e => Nat.lt_irrefl _ (HFH.out _ (H4.out.1.fr _ e))
              have hqr : rv.ownBlock ≠ some q := fun e => by
                obtain ⟨_, cur, h⟩ := own_obj H4.out.1.rrow e
                rw [H4.out.1.cell] at h; cases h
              refine hK.out _ _ ⟨grown_cell2 hgrow6 hbr hHeld.1, grown_cell2 hgrow6 hbr hHeld.2.1, grown_cell2 hgrow6 hbr hHeld.2.2⟩ (fun hHeld => ?_)
              clear hK K
              try simp only [Act.put, List.setIfInBounds_toArray, List.set_cons_zero, List.set_cons_succ]
              have q6 := grown_cell2 hgrow6 hqr q5
              have f6 : w6.frozen? ⟨q, 0, none⟩ = false := by
                have h7 := (hgrow6.block q (World.block_lt_of_cell? w5 ⟨q, 0, none⟩ q5) (fun e => hqr e.symm)).trans h5.cell
                simp [World.frozen?, h7]
              clear hown6 hgrow6 hor6 h5
              refine wpAnyH_take (i := 16) (oi := { dst := some 75, op := Op.nilCheck (Operand.tmp 59), type := 0, pos := "ref.go:107", after := #[{ on := 0, ground := Ground.data }, { on := 0, ground := Ground.phase }, { on := 1, ground := Ground.phase }, { on := 2, ground := Ground.phase }, { on := 3, ground := Ground.phase }, { on := 4, ground := Ground.phase }, { on := 5, ground := Ground.phase }, { on := 6, ground := Ground.phase }, { on := 7, ground := Ground.phase }, { on := 8, ground := Ground.phase }, { on := 9, ground := Ground.phase }, { on := 10, ground := Ground.phase }, { on := 11, ground := Ground.phase }, { on := 12, ground := Ground.phase }, { on := 13, ground := Ground.phase }, { on := 14, ground := Ground.phase }, { on := 15, ground := Ground.phase }], guard := none }) (v := ?_) rfl (by kernel_rfl) (by kernel_rfl) (by kernel_rfl) (fun _ _ _ h => h) (Or.inl ⟨by rfl, ?_⟩) (by assumption) ?_
              rotate_left
              focus (intro w' hSw; (try dsimp only at hSw); go_simp; try with_reducible rfl)
              try simp only [Act.put, List.setIfInBounds_toArray, List.set_cons_zero, List.set_cons_succ]
              refine wpAnyH_take (i := 17) (oi := { dst := some 76, op := Op.fieldAddr 30 (Operand.tmp 75) 0, type := 0, pos := "ref.go:107", after := #[{ on := 16, ground := Ground.data }, { on := 0, ground := Ground.phase }, { on := 1, ground := Ground.phase }, { on := 2, ground := Ground.phase }, { on := 3, ground := Ground.phase }, { on := 4, ground := Ground.phase }, { on := 5, ground := Ground.phase }, { on := 6, ground := Ground.phase }, { on := 7, ground := Ground.phase }, { on := 8, ground := Ground.phase }, { on := 9, ground := Ground.phase }, { on := 10, ground := Ground.phase }, { on := 11, ground := Ground.phase }, { on := 12, ground := Ground.phase }, { on := 13, ground := Ground.phase }, { on := 14, ground := Ground.phase }, { on := 15, ground := Ground.phase }], guard := none }) (v := ?_) rfl (by kernel_rfl) (by kernel_rfl) (by kernel_rfl) (fun _ _ _ h => h) (Or.inl ⟨by rfl, ?_⟩) (by assumption) ?_
              rotate_left
              focus (intro w' hSw; (try dsimp only at hSw); go_simp; try with_reducible rfl)
              try simp only [Act.put, List.setIfInBounds_toArray, List.set_cons_zero, List.set_cons_succ]
              refine wpAnyH_ready (rs := [18]) (by kernel_rfl) (by simp) ?_
              refine AllReadyH.cons (o := { dst := none, op := Op.store 27 (Operand.tmp 76) (Operand.tmp 74), type := 0, pos := "ref.go:107", after := #[{ on := 17, ground := Ground.data }, { on := 15, ground := Ground.data }, { on := 15, ground := Ground.chain }, { on := 0, ground := Ground.phase }, { on := 1, ground := Ground.phase }, { on := 2, ground := Ground.phase }, { on := 3, ground := Ground.phase }, { on := 4, ground := Ground.phase }, { on := 5, ground := Ground.phase }, { on := 6, ground := Ground.phase }, { on := 7, ground := Ground.phase }, { on := 8, ground := Ground.phase }, { on := 9, ground := Ground.phase }, { on := 10, ground := Ground.phase }, { on := 11, ground := Ground.phase }, { on := 12, ground := Ground.phase }, { on := 13, ground := Ground.phase }, { on := 14, ground := Ground.phase }, { on := 15, ground := Ground.phase }], guard := none }) rfl (fun K hK => ?_) AllReadyH.nil
              go_simp
              have hqb : q ≠ w.heap.size := Nat.ne_of_lt (HFH.out q H4.out.1.fq)
              refine hK.out _ _ ⟨(World.cell?_setCell_far w6 ⟨q, 0, none⟩ ⟨w.heap.size, 0, none⟩ _ hqb).trans hHeld.1, (World.cell?_setCell_far w6 ⟨q, 0, none⟩ ⟨w.heap.size, 1, none⟩ _ hqb).trans hHeld.2.1, (World.cell?_setCell_far w6 ⟨q, 0, none⟩ ⟨w.heap.size, 2, none⟩ _ hqb).trans hHeld.2.2⟩ (fun hHeld => ?_)
              clear hK K
              refine wpAnyH_done (by kernel_rfl) ?_ _
              go_wp2
              go_ret
              exact ⟨rfl, HE.out⟩
          · refine step_turns rfl (exec_make (n := n) rfl rfl rfl n1 n4 _) ?_
            refine hK.out _ _ (by go_keep) (fun hHeld => ?_)
            clear hK K
            try simp only [Act.put, List.setIfInBounds_toArray, List.set_cons_zero, List.set_cons_succ]
            refine wpAnyH_ready (rs := [4, 12]) (by kernel_rfl) (by simp) ?_
            refine (AllReadyH.cons (o := { dst := some 63, op := Op.load 27 (Operand.tmp 62), type := 27, pos := "ref.go:107", after := #[{ on := 3, ground := Ground.data }], guard := none }) rfl (fun K hK => ?_) (AllReadyH.cons (o := { dst := some 71, op := Op.makeSlice 83 (Operand.tmp 70) (Operand.tmp 70), type := 83, pos := "ref.go:107", after := #[{ on := 11, ground := Ground.data }, { on := 11, ground := Ground.data }], guard := none }) rfl (fun K hK => ?_) AllReadyH.nil))
            · refine step_turns rfl (exec_load1 rfl (agg27 _) rfl (cell_old hq0)) ?_
              refine hK.out _ _ (by go_keep) (fun hHeld => ?_)
              clear hK K
              try simp only [Act.put, List.setIfInBounds_toArray, List.set_cons_zero, List.set_cons_succ]
              refine wpAnyH_ready (rs := [12]) (by kernel_rfl) (by simp) ?_
              refine (AllReadyH.cons (o := { dst := some 71, op := Op.makeSlice 83 (Operand.tmp 70) (Operand.tmp 70), type := 83, pos := "ref.go:107", after := #[{ on := 11, ground := Ground.data }, { on := 11, ground := Ground.data }], guard := none }) rfl (fun K hK => ?_) AllReadyH.nil)
              refine step_turns rfl (exec_make (n := n) rfl rfl rfl n1 n4 _) ?_
              refine hK.out _ _ (by go_keep) (fun hHeld => ?_)
              clear hK K
              try simp only [Act.put, List.setIfInBounds_toArray, List.set_cons_zero, List.set_cons_succ]
              have hbd := build85 t.1 t.2.1 t.2.2 ⟨gn, 0, none⟩ ⟨w3.heap.size, 0, none⟩ ⟨(w3.heap.size + 1), 0, none⟩ n cap2 n n n n
              refine wpAnyH_take (i := 13) (oi := { dst := some 72, op := Op.build 85 #[(0, Operand.tmp 64), (1, Operand.tmp 65), (2, Operand.tmp 68), (3, Operand.tmp 71), (4, Operand.const (Value.int IntKind.i64 1))], type := 85, pos := "ref.go:107", after := #[{ on := 5, ground := Ground.data }, { on := 6, ground := Ground.data }, { on := 9, ground := Ground.data }, { on := 12, ground := Ground.data }], guard := none }) (v := ?_) rfl (by kernel_rfl) (by kernel_rfl) (by kernel_rfl) (fun _ _ _ h => h) (Or.inl ⟨by rfl, ?_⟩) (by assumption) ?_
              rotate_left
              focus (intro w' hSw; (try dsimp only at hSw); go_simp; try with_reducible rfl)
              try simp only [Act.put, List.setIfInBounds_toArray, List.set_cons_zero, List.set_cons_succ]
              refine wpAnyH_ready (rs := [14]) (by kernel_rfl) (by simp) ?_
              refine (AllReadyH.cons (o := { dst := some 73, op := Op.buildSlice 27 1 #[(0, Operand.tmp 72)], type := 27, pos := "ref.go:107", after := #[{ on := 13, ground := Ground.data }], guard := none }) rfl (fun K hK => ?_) AllReadyH.nil)
              go_simp
              refine hK.out _ _ ⟨cell_old (cell_old (cell_old x0)), cell_old (cell_old (cell_old x1)), cell_old (cell_old (cell_old x2))⟩ (fun hHeld => ?_)
              clear hK K
              try simp only [Act.put, List.setIfInBounds_toArray, List.set_cons_zero, List.set_cons_succ]
              have hf := five w3 n (RC.mk t gn cap2 w3.heap.size (w3.heap.size + 1) (newRun L))
              rw [show (cells7 (RC.mk t gn cap2 w3.heap.size (w3.heap.size + 1) (newRun L))).toArray = #[Value.int .u8 t.1, .int .u32 t.2.1, .int .u32 t.2.2, .slice (some ⟨gn, 0, none⟩) n cap2, .slice (some ⟨w3.heap.size, 0, none⟩) n n, .slice (some ⟨(w3.heap.size + 1), 0, none⟩) n n, .int .i64 1] from by unfold cells7; simp only [HN.out]; rfl] at hf
              have HF5 := Lib.hid hf
              clear hf hbd
              generalize (((w3.alloc (.cells (Array.replicate n (.bool false)) 4)).alloc (.cells (Array.replicate n (.bool false)) 4)).alloc (.cells #[Value.int .u8 t.1, .int .u32 t.2.1, .int .u32 t.2.2, .slice (some ⟨gn, 0, none⟩) n cap2, .slice (some ⟨w3.heap.size, 0, none⟩) n n, .slice (some ⟨(w3.heap.size + 1), 0, none⟩) n n, .int .i64 1] 85)).drew = w5 at HF5 hHeld ⊢
              have q5 : w5.cell? ⟨q, 0, none⟩ = some rv := (HF5.out.below.cell (p := ⟨q, 0, none⟩) (H4.out.1.hi q H4.out.1.fq)).trans hq0
              refine wpAnyH_ready (rs := [15]) (by kernel_rfl) (by simp) ?_
              refine AllReadyH.cons (o := { dst := some 74, op := Op.call { callee := Callee.builtin Builtin.append, args := #[Operand.tmp 63, Operand.tmp 73], argTypes := #[27, 27] }, type := 27, pos := "ref.go:107", after := #[{ on := 4, ground := Ground.data }, { on := 14, ground := Ground.data }], guard := none }) rfl (fun K hK => ?_) AllReadyH.nil
              have h5 := H4.out.1.below HF5.out.below
              refine step_append_lies _ rfl (.tmp 63) (.tmp 73) 27 rfl B 85 ir _ 7 96 Try.underlying27 HIR.out.1 HIR.out.2.1 HIR.out.2.2.1 HIR.out.2.2.2 rfl (by decide) rv CL.length (CL.flatMap cells7) rfl h5.rrow _ 1 1 (cells7 (RC.mk t gn cap2 w3.heap.size (w3.heap.size + 1) (newRun L))) rfl rfl HF5.out.news (one7 _) (by decide) (by unfold maxLen; omega) (by omega) h5.base _ rfl (fun g cap6 w6 hown6 hgrow6 hor6 _ => ?_)
              have HE := Lib.hid (rb_end (q := q) (RC.mk t gn cap2 w3.heap.size (w3.heap.size + 1) (newRun L)) HBW.out H3.out H4.out.1 HFH.out HND.out HF5.out ⟨rfl, rfl⟩ HN.out n1 (by first | exact .inl ⟨rfl, rfl⟩ | exact .inr ⟨rfl, rfl⟩) HRF.out.2.2 HRF.out.2.1 hown6 hgrow6 hor6)
              have hbr : rv.ownBlock ≠ some w.heap.size := fun e => Nat.lt_irrefl _ (HFH.out _ (H4.out.1.fr _ e))
              have hqr : rv.ownBlock ≠ some q := fun e => by
                obtain ⟨_, cur, h⟩ := own_obj H4.out.1.rrow e
                rw [H4.out.1.cell] at h; cases h
              refine hK.out _ _ ⟨grown_cell2 hgrow6 hbr hHeld.1, grown_cell2 hgrow6 hbr hHeld.2.1, grown_cell2 hgrow6 hbr hHeld.2.2⟩ (fun hHeld => ?_)
              clear hK K
              try simp only [Act.put, List.setIfInBounds_toArray, List.set_cons_zero, List.set_cons_succ]
              have q6 := grown_cell2 hgrow6 hqr q5
              have f6 : w6.frozen? ⟨q, 0, none⟩ = false := by
                have h7 := (hgrow6.block q (World.block_lt_of_cell? w5 ⟨q, 0, none⟩ q5) (fun e => hqr e.symm)).trans h5.cell
                simp [World.frozen?, h7]
              clear hown6 hgrow6 hor6 h5
              refine wpAnyH_take (i := 16) (oi := { dst := some 75, op := Op.nilCheck (Operand.tmp 59), type := 0, pos := "ref.go:107", after := #[{ on := 0, ground := Ground.data }, { on := 0, ground := Ground.phase }, { on := 1, ground := Ground.phase }, { on := 2, ground := Ground.phase }, { on := 3, ground := Ground.phase }, { on := 4, ground := Ground.phase }, { on := 5, ground := Ground.phase }, { on := 6, ground := Ground.phase }, { on := 7, ground := Ground.phase }, { on := 8, ground := Ground.phase }, { on := 9, ground := Ground.phase }, { on := 10, ground := Ground.phase }, { on := 11, ground := Ground.phase }, { on := 12, ground := Ground.phase }, { on := 13, ground := Ground.phase }, { on := 14, ground := Ground.phase }, { on := 15, ground := Ground.phase }], guard := none }) (v := ?_) rfl (by kernel_rfl) (by kernel_rfl) (by kernel_rfl) (fun _ _ _ h => h) (Or.inl ⟨by rfl, ?_⟩) (by assumption) ?_
              rotate_left
              focus (intro w' hSw; (try dsimp only at hSw); go_simp; try with_reducible rfl)
              try simp only [Act.put, List.setIfInBounds_toArray, List.set_cons_zero, List.set_cons_succ]
              refine wpAnyH_take (i := 17) (oi := { dst := some 76, op := Op.fieldAddr 30 (Operand.tmp 75) 0, type := 0, pos := "ref.go:107", after := #[{ on := 16, ground := Ground.data }, { on := 0, ground := Ground.phase }, { on := 1, ground := Ground.phase }, { on := 2, ground := Ground.phase }, { on := 3, ground := Ground.phase }, { on := 4, ground := Ground.phase }, { on := 5, ground := Ground.phase }, { on := 6, ground := Ground.phase }, { on := 7, ground := Ground.phase }, { on := 8, ground := Ground.phase }, { on := 9, ground := Ground.phase }, { on := 10, ground := Ground.phase }, { on := 11, ground := Ground.phase }, { on := 12, ground := Ground.phase }, { on := 13, ground := Ground.phase }, { on := 14, ground := Ground.phase }, { on := 15, ground := Ground.phase }], guard := none }) (v := ?_) rfl (by kernel_rfl) (by kernel_rfl) (by kernel_rfl) (fun _ _ _ h => h) (Or.inl ⟨by rfl, ?_⟩) (by assumption) ?_
              rotate_left
              focus (intro w' hSw; (try dsimp only at hSw); go_simp; try with_reducible rfl)
              try simp only [Act.put, List.setIfInBounds_toArray, List.set_cons_zero, List.set_cons_succ]
              refine wpAnyH_ready (rs := [18]) (by kernel_rfl) (by simp) ?_
              refine AllReadyH.cons (o := { dst := none, op := Op.store 27 (Operand.tmp 76) (Operand.tmp 74), type := 0, pos := "ref.go:107", after := #[{ on := 17, ground := Ground.data }, { on := 15, ground := Ground.data }, { on := 15, ground := Ground.chain }, { on := 0, ground := Ground.phase }, { on := 1, ground := Ground.phase }, { on := 2, ground := Ground.phase }, { on := 3, ground := Ground.phase }, { on := 4, ground := Ground.phase }, { on := 5, ground := Ground.phase }, { on := 6, ground := Ground.phase }, { on := 7, ground := Ground.phase }, { on := 8, ground := Ground.phase }, { on := 9, ground := Ground.phase }, { on := 10, ground := Ground.phase }, { on := 11, ground := Ground.phase }, { on := 12, ground := Ground.phase }, { on := 13, ground := Ground.phase }, { on := 14, ground := Ground.phase }, { on := 15, ground := Ground.phase }], guard := none }) rfl (fun K hK => ?_) AllReadyH.nil
              go_simp
              have hqb : q ≠ w.heap.size := Nat.ne_of_lt (HFH.out q H4.out.1.fq)
              refine hK.out _ _ ⟨(World.cell?_setCell_far w6 ⟨q, 0, none⟩ ⟨w.heap.size, 0, none⟩ _ hqb).trans hHeld.1, (World.cell?_setCell_far w6 ⟨q, 0, none⟩ ⟨w.heap.size, 1, none⟩ _ hqb).trans hHeld.2.1, (World.cell?_setCell_far w6 ⟨q, 0, none⟩ ⟨w.heap.size, 2, none⟩ _ hqb).trans hHeld.2.2⟩ (fun hHeld => ?_)
              clear hK K
              refine wpAnyH_done (by kernel_rfl) ?_ _
              go_wp2
              go_ret
              exact ⟨rfl, HE.out⟩
            · refine step_turns rfl (exec_make (n := n) rfl rfl rfl n1 n4 _) ?_
              refine hK.out _ _ (by go_keep) (fun hHeld => ?_)
              clear hK K
              try simp only [Act.put, List.setIfInBounds_toArray, List.set_cons_zero, List.set_cons_succ]
              have hbd := build85 t.1 t.2.1 t.2.2 ⟨gn, 0, none⟩ ⟨w3.heap.size, 0, none⟩ ⟨(w3.heap.size + 1), 0, none⟩ n cap2 n n n n
              refine wpAnyH_take (i := 13) (oi := { dst := some 72, op := Op.build 85 #[(0, Operand.tmp 64), (1, Operand.tmp 65), (2, Operand.tmp 68), (3, Operand.tmp 71), (4, Operand.const (Value.int IntKind.i64 1))], type := 85, pos := "ref.go:107", after := #[{ on := 5, ground := Ground.data }, { on := 6, ground := Ground.data }, { on := 9, ground := Ground.data }, { on := 12, ground := Ground.data }], guard := none }) (v := ?_) rfl (by kernel_rfl) (by kernel_rfl) (by kernel_rfl) (fun _ _ _ h => h) (Or.inl ⟨by rfl, ?_⟩) (by assumption) ?_
              rotate_left
              focus (intro w' hSw; (try dsimp only at hSw); go_simp; try with_reducible rfl)
              try simp only [Act.put, List.setIfInBounds_toArray, List.set_cons_zero, List.set_cons_succ]
              refine wpAnyH_ready (rs := [4, 14]) (by kernel_rfl) (by simp) ?_
              refine (AllReadyH.cons (o := { dst := some 63, op := Op.load 27 (Operand.tmp 62), type := 27, pos := "ref.go:107", after := #[{ on := 3, ground := Ground.data }], guard := none }) rfl (fun K hK => ?_) (AllReadyH.cons (o := { dst := some 73, op := Op.buildSlice 27 1 #[(0, Operand.tmp 72)], type := 27, pos := "ref.go:107", after := #[{ on := 13, ground := Ground.data }], guard := none }) rfl (fun K hK => ?_) AllReadyH.nil))
              · refine step_turns rfl (exec_load1 rfl (agg27 _) rfl (cell_old (cell_old hq0))) ?_
                refine hK.out _ _ (by go_keep) (fun hHeld => ?_)
                clear hK K
                try simp only [Act.put, List.setIfInBounds_toArray, List.set_cons_zero, List.set_cons_succ]
                refine wpAnyH_ready (rs := [14]) (by kernel_rfl) (by simp) ?_
                refine (AllReadyH.cons (o := { dst := some 73, op := Op.buildSlice 27 1 #[(0, Operand.tmp 72)], type := 27, pos := "ref.go:107", after := #[{ on := 13, ground := Ground.data }], guard := none }) rfl (fun K hK => ?_) AllReadyH.nil)
                go_simp
                refine hK.out _ _ ⟨cell_old (cell_old (cell_old x0)), cell_old (cell_old (cell_old x1)), cell_old (cell_old (cell_old x2))⟩ (fun hHeld => ?_)
                clear hK K
                try simp only [Act.put, List.setIfInBounds_toArray, List.set_cons_zero, List.set_cons_succ]
                have hf := five w3 n (RC.mk t gn cap2 w3.heap.size (w3.heap.size + 1) (newRun L))
                rw [show (cells7 (RC.mk t gn cap2 w3.heap.size (w3.heap.size + 1) (newRun L))).toArray = #[Value.int .u8 t.1, .int .u32 t.2.1, .int .u32 t.2.2, .slice (some ⟨gn, 0, none⟩) n cap2, .slice (some ⟨w3.heap.size, 0, none⟩) n n, .slice (some ⟨(w3.heap.size + 1), 0, none⟩) n n, .int .i64 1] from by unfold cells7; simp only [HN.out]; rfl] at hf
                have HF5 := Lib.hid hf
                clear hf hbd
                generalize (((w3.alloc (.cells (Array.replicate n (.bool false)) 4)).alloc (.cells (Array.replicate n (.bool false)) 4)).alloc (.cells #[Value.int .u8 t.1, .int .u32 t.2.1, .int .u32 t.2.2, .slice (some ⟨gn, 0, none⟩) n cap2, .slice (some ⟨w3.heap.size, 0, none⟩) n n, .slice (some ⟨(w3.heap.size + 1), 0, none⟩) n n, .int .i64 1] 85)).drew = w5 at HF5 hHeld ⊢
                have q5 : w5.cell? ⟨q, 0, none⟩ = some rv := (HF5.out.below.cell (p := ⟨q, 0, none⟩) (H4.out.1.hi q H4.out.1.fq)).trans hq0
                refine wpAnyH_ready (rs := [15]) (by kernel_rfl) (by simp) ?_
                refine AllReadyH.cons (o := { dst := some 74, op := Op.call { callee := Callee.builtin Builtin.append, args := #[Operand.tmp 63, Operand.tmp 73], argTypes := #[27, 27] }, type := 27, pos := "ref.go:107", after := #[{ on := 4, ground := Ground.data }, { on := 14, ground := Ground.data }], guard := none }) rfl (fun K hK => ?_) AllReadyH.nil
                have h5 := H4.out.1.below HF5.out.below
                refine step_append_lies _ rfl (.tmp 63) (.tmp 73) 27 rfl B 85 ir _ 7 96 Try.underlying27 HIR.out.1 HIR.out.2.1 HIR.out.2.2.1 HIR.out.2.2.2 rfl (by decide) rv CL.length (CL.flatMap cells7) rfl h5.rrow _ 1 1 (cells7 (RC.mk t gn cap2 w3.heap.size (w3.heap.size + 1) (newRun L))) rfl rfl HF5.out.news (one7 _) (by decide) (by unfold maxLen; omega) (by omega) h5.base _ rfl (fun g cap6 w6 hown6 hgrow6 hor6 _ => ?_)
                have HE := Lib.hid (rb_end (q := q) (RC.mk t gn cap2 w3.heap.size (w3.heap.size + 1) (newRun L)) HBW.out H3.out H4.out.1 HFH.out HND.out HF5.out ⟨rfl, rfl⟩ HN.out n1 (by first | exact .inl ⟨rfl, rfl⟩ | exact .inr ⟨rfl, rfl⟩) HRF.out.2.2 HRF.out.2.1 hown6 hgrow6 hor6)
                have hbr : rv.ownBlock ≠ some w.heap.size := fun e => Nat.lt_irrefl _ (HFH.out _ (H4.out.1.fr _ e))
                have hqr : rv.ownBlock ≠ some q := fun e => by
                  obtain ⟨_, cur, h⟩ := own_obj H4.out.1.rrow e
                  rw [H4.out.1.cell] at h; cases h
                refine hK.out _ _ ⟨grown_cell2 hgrow6 hbr hHeld.1, grown_cell2 hgrow6 hbr hHeld.2.1, grown_cell2 hgrow6 hbr hHeld.2.2⟩ (fun hHeld => ?_)
                clear hK K
                try simp only [Act.put, List.setIfInBounds_toArray, List.set_cons_zero, List.set_cons_succ]
                have q6 := grown_cell2 hgrow6 hqr q5
                have f6 : w6.frozen? ⟨q, 0, none⟩ = false := by
                  have h7 := (hgrow6.block q (World.block_lt_of_cell? w5 ⟨q, 0, none⟩ q5) (fun e => hqr e.symm)).trans h5.cell
                  simp [World.frozen?, h7]
                clear hown6 hgrow6 hor6 h5
                refine wpAnyH_take (i := 16) (oi := { dst := some 75, op := Op.nilCheck (Operand.tmp 59), type := 0, pos := "ref.go:107", after := #[{ on := 0, ground := Ground.data }, { on := 0, ground := Ground.phase }, { on := 1, ground := Ground.phase }, { on := 2, ground := Ground.phase }, { on := 3, ground := Ground.phase }, { on := 4, ground := Ground.phase }, { on := 5, ground := Ground.phase }, { on := 6, ground := Ground.phase }, { on := 7, ground := Ground.phase }, { on := 8, ground := Ground.phase }, { on := 9, ground := Ground.phase }, { on := 10, ground := Ground.phase }, { on := 11, ground := Ground.phase }, { on := 12, ground := Ground.phase }, { on := 13, ground := Ground.phase }, { on := 14, ground := Ground.phase }, { on := 15, ground := Ground.phase }], guard := none }) (v := ?_) rfl (by kernel_rfl) (by kernel_rfl) (by kernel_rfl) (fun _ _ _ h => h) (Or.inl ⟨by rfl, ?_⟩) (by assumption) ?_
                rotate_left
                focus (intro w' hSw; (try dsimp only at hSw); go_simp; try with_reducible rfl)
                try simp only [Act.put, List.setIfInBounds_toArray, List.set_cons_zero, List.set_cons_succ]
                refine wpAnyH_take (i := 17) (oi := { dst := some 76, op := Op.fieldAddr 30 (Operand.tmp 75) 0, type := 0, pos := "ref.go:107", after := #[{ on := 16, ground := Ground.data }, { on := 0, ground := Ground.phase }, { on := 1, ground := Ground.phase }, { on := 2, ground := Ground.phase }, { on := 3, ground := Ground.phase }, { on := 4, ground := Ground.phase }, { on := 5, ground := Ground.phase }, { on := 6, ground := Ground.phase }, { on := 7, ground := Ground.phase }, { on := 8, ground := Ground.phase }, { on := 9, ground := Ground.phase }, { on := 10, ground := Ground.phase }, { on := 11, ground := Ground.phase }, { on := 12, ground := Ground.phase }, { on := 13, ground := Ground.phase }, { on := 14, ground := Ground.phase }, { on := 15, ground := Ground.phase }], guard := none }) (v := ?_) rfl (by kernel_rfl) (by kernel_rfl) (by kernel_rfl) (fun _ _ _ h => h) (Or.inl ⟨by rfl, ?_⟩) (by assumption) ?_
                rotate_left
                focus (intro w' hSw; (try dsimp only at hSw); go_simp; try with_reducible rfl)
                try simp only [Act.put, List.setIfInBounds_toArray, List.set_cons_zero, List.set_cons_succ]
                refine wpAnyH_ready (rs := [18]) (by kernel_rfl) (by simp) ?_
                refine AllReadyH.cons (o := { dst := none, op := Op.store 27 (Operand.tmp 76) (Operand.tmp 74), type := 0, pos := "ref.go:107", after := #[{ on := 17, ground := Ground.data }, { on := 15, ground := Ground.data }, { on := 15, ground := Ground.chain }, { on := 0, ground := Ground.phase }, { on := 1, ground := Ground.phase }, { on := 2, ground := Ground.phase }, { on := 3, ground := Ground.phase }, { on := 4, ground := Ground.phase }, { on := 5, ground := Ground.phase }, { on := 6, ground := Ground.phase }, { on := 7, ground := Ground.phase }, { on := 8, ground := Ground.phase }, { on := 9, ground := Ground.phase }, { on := 10, ground := Ground.phase }, { on := 11, ground := Ground.phase }, { on := 12, ground := Ground.phase }, { on := 13, ground := Ground.phase }, { on := 14, ground := Ground.phase }, { on := 15, ground := Ground.phase }], guard := none }) rfl (fun K hK => ?_) AllReadyH.nil
                go_simp
                have hqb : q ≠ w.heap.size := Nat.ne_of_lt (HFH.out q H4.out.1.fq)
                refine hK.out _ _ ⟨(World.cell?_setCell_far w6 ⟨q, 0, none⟩ ⟨w.heap.size, 0, none⟩ _ hqb).trans hHeld.1, (World.cell?_setCell_far w6 ⟨q, 0, none⟩ ⟨w.heap.size, 1, none⟩ _ hqb).trans hHeld.2.1, (World.cell?_setCell_far w6 ⟨q, 0, none⟩ ⟨w.heap.size, 2, none⟩ _ hqb).trans hHeld.2.2⟩ (fun hHeld => ?_)
                clear hK K
                refine wpAnyH_done (by kernel_rfl) ?_ _
                go_wp2
                go_ret
                exact ⟨rfl, HE.out⟩
              · go_simp
                refine hK.out _ _ ⟨cell_old (cell_old (cell_old x0)), cell_old (cell_old (cell_old x1)), cell_old (cell_old (cell_old x2))⟩ (fun hHeld => ?_)
                clear hK K
                try simp only [Act.put, List.setIfInBounds_toArray, List.set_cons_zero, List.set_cons_succ]
                have hf := five w3 n (RC.mk t gn cap2 w3.heap.size (w3.heap.size + 1) (newRun L))
                rw [show (cells7 (RC.mk t gn cap2 w3.heap.size (w3.heap.size + 1) (newRun L))).toArray = #[Value.int .u8 t.1, .int .u32 t.2.1, .int .u32 t.2.2, .slice (some ⟨gn, 0, none⟩) n cap2, .slice (some ⟨w3.heap.size, 0, none⟩) n n, .slice (some ⟨(w3.heap.size + 1), 0, none⟩) n n, .int .i64 1] from by unfold cells7; simp only [HN.out]; rfl] at hf
                have HF5 := Lib.hid hf
                clear hf hbd
                generalize (((w3.alloc (.cells (Array.replicate n (.bool false)) 4)).alloc (.cells (Array.replicate n (.bool false)) 4)).alloc (.cells #[Value.int .u8 t.1, .int .u32 t.2.1, .int .u32 t.2.2, .slice (some ⟨gn, 0, none⟩) n cap2, .slice (some ⟨w3.heap.size, 0, none⟩) n n, .slice (some ⟨(w3.heap.size + 1), 0, none⟩) n n, .int .i64 1] 85)).drew = w5 at HF5 hHeld ⊢
                have q5 : w5.cell? ⟨q, 0, none⟩ = some rv := (HF5.out.below.cell (p := ⟨q, 0, none⟩) (H4.out.1.hi q H4.out.1.fq)).trans hq0
                refine wpAnyH_ready (rs := [4]) (by kernel_rfl) (by simp) ?_
                refine (AllReadyH.cons (o := { dst := some 63, op := Op.load 27 (Operand.tmp 62), type := 27, pos := "ref.go:107", after := #[{ on := 3, ground := Ground.data }], guard := none }) rfl (fun K hK => ?_) AllReadyH.nil)
                refine step_turns rfl (exec_load1 rfl (agg27 _) rfl q5) ?_
                refine hK.out _ _ (by go_keep) (fun hHeld => ?_)
                clear hK K
                try simp only [Act.put, List.setIfInBounds_toArray, List.set_cons_zero, List.set_cons_succ]
                refine wpAnyH_ready (rs := [15]) (by kernel_rfl) (by simp) ?_
                refine AllReadyH.cons (o := { dst := some 74, op := Op.call { callee := Callee.builtin Builtin.append, args := #[Operand.tmp 63, Operand.tmp 73], argTypes := #[27, 27] }, type := 27, pos := "ref.go:107", after := #[{ on := 4, ground := Ground.data }, { on := 14, ground := Ground.data }], guard := none }) rfl (fun K hK => ?_) AllReadyH.nil
                have h5 := H4.out.1.below HF5.out.below
                refine step_append_lies _ rfl (.tmp 63) (.tmp 73) 27 rfl B 85 ir _ 7 96 Try.underlying27 HIR.out.1 HIR.out.2.1 HIR.out.2.2.1 HIR.out.2.2.2 rfl (by decide) rv CL.length (CL.flatMap cells7) rfl h5.rrow _ 1 1 (cells7 (RC.mk t gn cap2 w3.heap.size (w3.heap.size + 1) (newRun L))) rfl rfl HF5.out.news (one7 _) (by decide) (by unfold maxLen; omega) (by omega) h5.base _ rfl (fun g cap6 w6 hown6 hgrow6 hor6 _ => ?_)
                have HE := Lib.hid (rb_end (q := q) (RC.mk t gn cap2 w3.heap.size (w3.heap.size + 1) (newRun L)) HBW.out H3.out H4.out.1 HFH.out HND.out HF5.out ⟨rfl, rfl⟩ HN.out n1 (by first | exact .inl ⟨rfl, rfl⟩ | exact .inr ⟨rfl, rfl⟩) HRF.out.2.2 HRF.out.2.1 hown6 hgrow6 hor6)
                have hbr : rv.ownBlock ≠ some w.heap.size := fun e => Nat.lt_irrefl _ (HFH.out _ (H4.out.1.fr _ e))
                have hqr : rv.ownBlock ≠ some q := fun e => by
                  obtain ⟨_, cur, h⟩ := own_obj H4.out.1.rrow e
                  rw [H4.out.1.cell] at h; cases h
                refine hK.out _ _ ⟨grown_cell2 hgrow6 hbr hHeld.1, grown_cell2 hgrow6 hbr hHeld.2.1, grown_cell2 hgrow6 hbr hHeld.2.2⟩ (fun hHeld => ?_)
                clear hK K
                try simp only [Act.put, List.setIfInBounds_toArray, List.set_cons_zero, List.set_cons_succ]
                have q6 := grown_cell2 hgrow6 hqr q5
                have f6 : w6.frozen? ⟨q, 0, none⟩ = false := by
                  have h7 := (hgrow6.block q (World.block_lt_of_cell? w5 ⟨q, 0, none⟩ q5) (fun e => hqr e.symm)).trans h5.cell
                  simp [World.frozen?, h7]
                clear hown6 hgrow6 hor6 h5
                refine wpAnyH_take (i := 16) (oi := { dst := some 75, op := Op.nilCheck (Operand.tmp 59), type := 0, pos := "ref.go:107", after := #[{ on := 0, ground := Ground.data }, { on := 0, ground := Ground.phase }, { on := 1, ground := Ground.phase }, { on := 2, ground := Ground.phase }, { on := 3, ground := Ground.phase }, { on := 4, ground := Ground.phase }, { on := 5, ground := Ground.phase }, { on := 6, ground := Ground.phase }, { on := 7, ground := Ground.phase }, { on := 8, ground := Ground.phase }, { on := 9, ground := Ground.phase }, { on := 10, ground := Ground.phase }, { on := 11, ground := Ground.phase }, { on := 12, ground := Ground.phase }, { on := 13, ground := Ground.phase }, { on := 14, ground := Ground.phase }, { on := 15, ground := Ground.phase }], guard := none }) (v := ?_) rfl (by kernel_rfl) (by kernel_rfl) (by kernel_rfl) (fun _ _ _ h => h) (Or.inl ⟨by rfl, ?_⟩) (by assumption) ?_
                rotate_left
                focus (intro w' hSw; (try dsimp only at hSw); go_simp; try with_reducible rfl)
                try simp only [Act.put, List.setIfInBounds_toArray, List.set_cons_zero, List.set_cons_succ]
                refine wpAnyH_take (i := 17) (oi := { dst := some 76, op := Op.fieldAddr 30 (Operand.tmp 75) 0, type := 0, pos := "ref.go:107", after := #[{ on := 16, ground := Ground.data }, { on := 0, ground := Ground.phase }, { on := 1, ground := Ground.phase }, { on := 2, ground := Ground.phase }, { on := 3, ground := Ground.phase }, { on := 4, ground := Ground.phase }, { on := 5, ground := Ground.phase }, { on := 6, ground := Ground.phase }, { on := 7, ground := Ground.phase }, { on := 8, ground := Ground.phase }, { on := 9, ground := Ground.phase }, { on := 10, ground := Ground.phase }, { on := 11, ground := Ground.phase }, { on := 12, ground := Ground.phase }, { on := 13, ground := Ground.phase }, { on := 14, ground := Ground.phase }, { on := 15, ground := Ground.phase }], guard := none }) (v := ?_) rfl (by kernel_rfl) (by kernel_rfl) (by kernel_rfl) (fun _ _ _ h => h) (Or.inl ⟨by rfl, ?_⟩) (by assumption) ?_
                rotate_left
                focus (intro w' hSw; (try dsimp only at hSw); go_simp; try with_reducible rfl)
                try simp only [Act.put, List.setIfInBounds_toArray, List.set_cons_zero, List.set_cons_succ]
                refine wpAnyH_ready (rs := [18]) (by kernel_rfl) (by simp) ?_
                refine AllReadyH.cons (o := { dst := none, op := Op.store 27 (Operand.tmp 76) (Operand.tmp 74), type := 0, pos := "ref.go:107", after := #[{ on := 17, ground := Ground.data }, { on := 15, ground := Ground.data }, { on := 15, ground := Ground.chain }, { on := 0, ground := Ground.phase }, { on := 1, ground := Ground.phase }, { on := 2, ground := Ground.phase }, { on := 3, ground := Ground.phase }, { on := 4, ground := Ground.phase }, { on := 5, ground := Ground.phase }, { on := 6, ground := Ground.phase }, { on := 7, ground := Ground.phase }, { on := 8, ground := Ground.phase }, { on := 9, ground := Ground.phase }, { on := 10, ground := Ground.phase }, { on := 11, ground := Ground.phase }, { on := 12, ground := Ground.phase }, { on := 13, ground := Ground.phase }, { on := 14, ground := Ground.phase }, { on := 15, ground := Ground.phase }], guard := none }) rfl (fun K hK => ?_) AllReadyH.nil
                go_simp
                have hqb : q ≠ w.heap.size := Nat.ne_of_lt (HFH.out q H4.out.1.fq)
                refine hK.out _ _ ⟨(World.cell?_setCell_far w6 ⟨q, 0, none⟩ ⟨w.heap.size, 0, none⟩ _ hqb).trans hHeld.1, (World.cell?_setCell_far w6 ⟨q, 0, none⟩ ⟨w.heap.size, 1, none⟩ _ hqb).trans hHeld.2.1, (World.cell?_setCell_far w6 ⟨q, 0, none⟩ ⟨w.heap.size, 2, none⟩ _ hqb).trans hHeld.2.2⟩ (fun hHeld => ?_)
                clear hK K
                refine wpAnyH_done (by kernel_rfl) ?_ _
                go_wp2
                go_ret
                exact ⟨rfl, HE.out⟩
          · refine step_turns rfl (exec_make (n := n) rfl rfl rfl n1 n4 _) ?_
            refine hK.out _ _ (by go_keep) (fun hHeld => ?_)
            clear hK K
            try simp only [Act.put, List.setIfInBounds_toArray, List.set_cons_zero, List.set_cons_succ]
            refine wpAnyH_ready (rs := [4, 9]) (by kernel_rfl) (by simp) ?_
            refine (AllReadyH.cons (o := { dst := some 63, op := Op.load 27 (Operand.tmp 62), type := 27, pos := "ref.go:107", after := #[{ on := 3, ground := Ground.data }], guard := none }) rfl (fun K hK => ?_) (AllReadyH.cons (o := { dst := some 68, op := Op.makeSlice 83 (Operand.tmp 67) (Operand.tmp 67), type := 83, pos := "ref.go:107", after := #[{ on := 8, ground := Ground.data }, { on := 8, ground := Ground.data }], guard := none }) rfl (fun K hK => ?_) AllReadyH.nil))
            · refine step_turns rfl (exec_load1 rfl (agg27 _) rfl (cell_old hq0)) ?_
              refine hK.out _ _ (by go_keep) (fun hHeld => ?_)
              clear hK K
              try simp only [Act.put, List.setIfInBounds_toArray, List.set_cons_zero, List.set_cons_succ]
              refine wpAnyH_ready (rs := [9]) (by kernel_rfl) (by simp) ?_
              refine (AllReadyH.cons (o := { dst := some 68, op := Op.makeSlice 83 (Operand.tmp 67) (Operand.tmp 67), type := 83, pos := "ref.go:107", after := #[{ on := 8, ground := Ground.data }, { on := 8, ground := Ground.data }], guard := none }) rfl (fun K hK => ?_) AllReadyH.nil)
              refine step_turns rfl (exec_make (n := n) rfl rfl rfl n1 n4 _) ?_
              refine hK.out _ _ (by go_keep) (fun hHeld => ?_)
              clear hK K
              try simp only [Act.put, List.setIfInBounds_toArray, List.set_cons_zero, List.set_cons_succ]
              have hbd := build85 t.1 t.2.1 t.2.2 ⟨gn, 0, none⟩ ⟨(w3.heap.size + 1), 0, none⟩ ⟨w3.heap.size, 0, none⟩ n cap2 n n n n
              refine wpAnyH_take (i := 13) (oi := { dst := some 72, op := Op.build 85 #[(0, Operand.tmp 64), (1, Operand.tmp 65), (2, Operand.tmp 68), (3, Operand.tmp 71), (4, Operand.const (Value.int IntKind.i64 1))], type := 85, pos := "ref.go:107", after := #[{ on := 5, ground := Ground.data }, { on := 6, ground := Ground.data }, { on := 9, ground := Ground.data }, { on := 12, ground := Ground.data }], guard := none }) (v := ?_) rfl (by kernel_rfl) (by kernel_rfl) (by kernel_rfl) (fun _ _ _ h => h) (Or.inl ⟨by rfl, ?_⟩) (by assumption) ?_
              rotate_left
              focus (intro w' hSw; (try dsimp only at hSw); go_simp; try with_reducible rfl)
              try simp only [Act.put, List.setIfInBounds_toArray, List.set_cons_zero, List.set_cons_succ]
              refine wpAnyH_ready (rs := [14]) (by kernel_rfl) (by simp) ?_
              refine (AllReadyH.cons (o := { dst := some 73, op := Op.buildSlice 27 1 #[(0, Operand.tmp 72)], type := 27, pos := "ref.go:107", after := #[{ on := 13, ground := Ground.data }], guard := none }) rfl (fun K hK => ?_) AllReadyH.nil)
              go_simp
              refine hK.out _ _ ⟨cell_old (cell_old (cell_old x0)), cell_old (cell_old (cell_old x1)), cell_old (cell_old (cell_old x2))⟩ (fun hHeld => ?_)
              clear hK K
              try simp only [Act.put, List.setIfInBounds_toArray, List.set_cons_zero, List.set_cons_succ]
              have hf := five w3 n (RC.mk t gn cap2 (w3.heap.size + 1) w3.heap.size (newRun L))
              rw [show (cells7 (RC.mk t gn cap2 (w3.heap.size + 1) w3.heap.size (newRun L))).toArray = #[Value.int .u8 t.1, .int .u32 t.2.1, .int .u32 t.2.2, .slice (some ⟨gn, 0, none⟩) n cap2, .slice (some ⟨(w3.heap.size + 1), 0, none⟩) n n, .slice (some ⟨w3.heap.size, 0, none⟩) n n, .int .i64 1] from by unfold cells7; simp only [HN.out]; rfl] at hf
              have HF5 := Lib.hid hf
              clear hf hbd
              generalize (((w3.alloc (.cells (Array.replicate n (.bool false)) 4)).alloc (.cells (Array.replicate n (.bool false)) 4)).alloc (.cells #[Value.int .u8 t.1, .int .u32 t.2.1, .int .u32 t.2.2, .slice (some ⟨gn, 0, none⟩) n cap2, .slice (some ⟨(w3.heap.size + 1), 0, none⟩) n n, .slice (some ⟨w3.heap.size, 0, none⟩) n n, .int .i64 1] 85)).drew = w5 at HF5 hHeld ⊢
              have q5 : w5.cell? ⟨q, 0, none⟩ = some rv := (HF5.out.below.cell (p := ⟨q, 0, none⟩) (H4.out.1.hi q H4.out.1.fq)).trans hq0
              refine wpAnyH_ready (rs := [15]) (by kernel_rfl) (by simp) ?_
              refine AllReadyH.cons (o := { dst := some 74, op := Op.call { callee := Callee.builtin Builtin.append, args := #[Operand.tmp 63, Operand.tmp 73], argTypes := #[27, 27] }, type := 27, pos := "ref.go:107", after := #[{ on := 4, ground := Ground.data }, { on := 14, ground := Ground.data }], guard := none }) rfl (fun K hK => ?_) AllReadyH.nil
              have h5 := H4.out.1.below HF5.out.below
              refine step_append_lies _ rfl (.tmp 63) (.tmp 73) 27 rfl B 85 ir _ 7 96 Try.underlying27 HIR.out.1 HIR.out.2.1 HIR.out.2.2.1 HIR.out.2.2.2 rfl (by decide) rv CL.length (CL.flatMap cells7) rfl h5.rrow _ 1 1 (cells7 (RC.mk t gn cap2 (w3.heap.size + 1) w3.heap.size (newRun L))) rfl rfl HF5.out.news (one7 _) (by decide) (by unfold maxLen; omega) (by omega) h5.base _ rfl (fun g cap6 w6 hown6 hgrow6 hor6 _ => ?_)
              have HE := Lib.hid (rb_end (q := q) (RC.mk t gn cap2 (w3.heap.size + 1) w3.heap.size (newRun L)) HBW.out H3.out H4.out.1 HFH.out HND.out HF5.out ⟨rfl, rfl⟩ HN.out n1 (by first | exact .inl ⟨rfl, rfl⟩ | exact .inr ⟨rfl, rfl⟩) HRF.out.2.2 HRF.out.2.1 hown6 hgrow6 hor6)
              have hbr : rv.ownBlock ≠ some w.heap.size := fun e => Nat.lt_irrefl _ (HFH.out _ (H4.out.1.fr _ e))
              have hqr : rv.ownBlock ≠ some q := fun e => by
                obtain ⟨_, cur, h⟩ := own_obj H4.out.1.rrow e
                rw [H4.out.1.cell] at h; cases h
              refine hK.out _ _ ⟨grown_cell2 hgrow6 hbr hHeld.1, grown_cell2 hgrow6 hbr hHeld.2.1, grown_cell2 hgrow6 hbr hHeld.2.2⟩ (fun hHeld => ?_)
              clear hK K
              try simp only [Act.put, List.setIfInBounds_toArray, List.set_cons_zero, List.set_cons_succ]
              have q6 := grown_cell2 hgrow6 hqr q5
              have f6 : w6.frozen? ⟨q, 0, none⟩ = false := by
                have h7 := (hgrow6.block q (World.block_lt_of_cell? w5 ⟨q, 0, none⟩ q5) (fun e => hqr e.symm)).trans h5.cell
                simp [World.frozen?, h7]
              clear hown6 hgrow6 hor6 h5
              refine wpAnyH_take (i := 16) (oi := { dst := some 75, op := Op.nilCheck (Operand.tmp 59), type := 0, pos := "ref.go:107", after := #[{ on := 0, ground := Ground.data }, { on := 0, ground := Ground.phase }, { on := 1, ground := Ground.phase }, { on := 2, ground := Ground.phase }, { on := 3, ground := Ground.phase }, { on := 4, ground := Ground.phase }, { on := 5, ground := Ground.phase }, { on := 6, ground := Ground.phase }, { on := 7, ground := Ground.phase }, { on := 8, ground := Ground.phase }, { on := 9, ground := Ground.phase }, { on := 10, ground := Ground.phase }, { on := 11, ground := Ground.phase }, { on := 12, ground := Ground.phase }, { on := 13, ground := Ground.phase }, { on := 14, ground := Ground.phase }, { on := 15, ground := Ground.phase }], guard := none }) (v := ?_) rfl (by kernel_rfl) (by kernel_rfl) (by kernel_rfl) (fun _ _ _ h => h) (Or.inl ⟨by rfl, ?_⟩) (by assumption) ?_
              rotate_left
              focus (intro w' hSw; (try dsimp only at hSw); go_simp; try with_reducible rfl)
              try simp only [Act.put, List.setIfInBounds_toArray, List.set_cons_zero, List.set_cons_succ]
              refine wpAnyH_take (i := 17) (oi := { dst := some 76, op := Op.fieldAddr 30 (Operand.tmp 75) 0, type := 0, pos := "ref.go:107", after := #[{ on := 16, ground := Ground.data }, { on := 0, ground := Ground.phase }, { on := 1, ground := Ground.phase }, { on := 2, ground := Ground.phase }, { on := 3, ground := Ground.phase }, { on := 4, ground := Ground.phase }, { on := 5, ground := Ground.phase }, { on := 6, ground := Ground.phase }, { on := 7, ground := Ground.phase }, { on := 8, ground := Ground.phase }, { on := 9, ground := Ground.phase }, { on := 10, ground := Ground.phase }, { on := 11, ground := Ground.phase }, { on := 12, ground := Ground.phase }, { on := 13, ground := Ground.phase }, { on := 14, ground := Ground.phase }, { on := 15, ground := Ground.phase }], guard := none }) (v := ?_) rfl (by kernel_rfl) (by kernel_rfl) (by kernel_rfl) (fun _ _ _ h => h) (Or.inl ⟨by rfl, ?_⟩) (by assumption) ?_
              rotate_left
              focus (intro w' hSw; (try dsimp only at hSw); go_simp; try with_reducible rfl)
              try simp only [Act.put, List.setIfInBounds_toArray, List.set_cons_zero, List.set_cons_succ]
              refine wpAnyH_ready (rs := [18]) (by kernel_rfl) (by simp) ?_
              refine AllReadyH.cons (o := { dst := none, op := Op.store 27 (Operand.tmp 76) (Operand.tmp 74), type := 0, pos := "ref.go:107", after := #[{ on := 17, ground := Ground.data }, { on := 15, ground := Ground.data }, { on := 15, ground := Ground.chain }, { on := 0, ground := Ground.phase }, { on := 1, ground := Ground.phase }, { on := 2, ground := Ground.phase }, { on := 3, ground := Ground.phase }, { on := 4, ground := Ground.phase }, { on := 5, ground := Ground.phase }, { on := 6, ground := Ground.phase }, { on := 7, ground := Ground.phase }, { on := 8, ground := Ground.phase }, { on := 9, ground := Ground.phase }, { on := 10, ground := Ground.phase }, { on := 11, ground := Ground.phase }, { on := 12, ground := Ground.phase }, { on := 13, ground := Ground.phase }, { on := 14, ground := Ground.phase }, { on := 15, ground := Ground.phase }], guard := none }) rfl (fun K hK => ?_) AllReadyH.nil
              go_simp
              have hqb : q ≠ w.heap.size := Nat.ne_of_lt (HFH.out q H4.out.1.fq)
              refine hK.out _ _ ⟨(World.cell?_setCell_far w6 ⟨q, 0, none⟩ ⟨w.heap.size, 0, none⟩ _ hqb).trans hHeld.1, (World.cell?_setCell_far w6 ⟨q, 0, none⟩ ⟨w.heap.size, 1, none⟩ _ hqb).trans hHeld.2.1, (World.cell?_setCell_far w6 ⟨q, 0, none⟩ ⟨w.heap.size, 2, none⟩ _ hqb).trans hHeld.2.2⟩ (fun hHeld => ?_)
              clear hK K
              refine wpAnyH_done (by kernel_rfl) ?_ _
              go_wp2
              go_ret
              exact ⟨rfl, HE.out⟩
            · refine step_turns rfl (exec_make (n := n) rfl rfl rfl n1 n4 _) ?_
              refine hK.out _ _ (by go_keep) (fun hHeld => ?_)
              clear hK K
              try simp only [Act.put, List.setIfInBounds_toArray, List.set_cons_zero, List.set_cons_succ]
              have hbd := build85 t.1 t.2.1 t.2.2 ⟨gn, 0, none⟩ ⟨(w3.heap.size + 1), 0, none⟩ ⟨w3.heap.size, 0, none⟩ n cap2 n n n n
              refine wpAnyH_take (i := 13) (oi := { dst := some 72, op := Op.build 85 #[(0, Operand.tmp 64), (1, Operand.tmp 65), (2, Operand.tmp 68), (3, Operand.tmp 71), (4, Operand.const (Value.int IntKind.i64 1))], type := 85, pos := "ref.go:107", after := #[{ on := 5, ground := Ground.data }, { on := 6, ground := Ground.data }, { on := 9, ground := Ground.data }, { on := 12, ground := Ground.data }], guard := none }) (v := ?_) rfl (by kernel_rfl) (by kernel_rfl) (by kernel_rfl) (fun _ _ _ h => h) (Or.inl ⟨by rfl, ?_⟩) (by assumption) ?_
              rotate_left
              focus (intro w' hSw; (try dsimp only at hSw); go_simp; try with_reducible rfl)
              try simp only [Act.put, List.setIfInBounds_toArray, List.set_cons_zero, List.set_cons_succ]
              refine wpAnyH_ready (rs := [4, 14]) (by kernel_rfl) (by simp) ?_
              refine (AllReadyH.cons (o := { dst := some 63, op := Op.load 27 (Operand.tmp 62), type := 27, pos := "ref.go:107", after := #[{ on := 3, ground := Ground.data }], guard := none }) rfl (fun K hK => ?_) (AllReadyH.cons (o := { dst := some 73, op := Op.buildSlice 27 1 #[(0, Operand.tmp 72)], type := 27, pos := "ref.go:107", after := #[{ on := 13, ground := Ground.data }], guard := none }) rfl (fun K hK => ?_) AllReadyH.nil))
              · refine step_turns rfl (exec_load1 rfl (agg27 _) rfl (cell_old (cell_old hq0))) ?_
                refine hK.out _ _ (by go_keep) (fun hHeld => ?_)
                clear hK K
                try simp only [Act.put, List.setIfInBounds_toArray, List.set_cons_zero, List.set_cons_succ]
                refine wpAnyH_ready (rs := [14]) (by kernel_rfl) (by simp) ?_
                refine (AllReadyH.cons (o := { dst := some 73, op := Op.buildSlice 27 1 #[(0, Operand.tmp 72)], type := 27, pos := "ref.go:107", after := #[{ on := 13, ground := Ground.data }], guard := none }) rfl (fun K hK => ?_) AllReadyH.nil)
                go_simp
                refine hK.out _ _ ⟨cell_old (cell_old (cell_old x0)), cell_old (cell_old (cell_old x1)), cell_old (cell_old (cell_old x2))⟩ (fun hHeld => ?_)
                clear hK K
                try simp only [Act.put, List.setIfInBounds_toArray, List.set_cons_zero, List.set_cons_succ]
                have hf := five w3 n (RC.mk t gn cap2 (w3.heap.size + 1) w3.heap.size (newRun L))
                rw [show (cells7 (RC.mk t gn cap2 (w3.heap.size + 1) w3.heap.size (newRun L))).toArray = #[Value.int .u8 t.1, .int .u32 t.2.1, .int .u32 t.2.2, .slice (some ⟨gn, 0, none⟩) n cap2, .slice (some ⟨(w3.heap.size + 1), 0, none⟩) n n, .slice (some ⟨w3.heap.size, 0, none⟩) n n, .int .i64 1] from by unfold cells7; simp only [HN.out]; rfl] at hf
                have HF5 := Lib.hid hf
                clear hf hbd
                generalize (((w3.alloc (.cells (Array.replicate n (.bool false)) 4)).alloc (.cells (Array.replicate n (.bool false)) 4)).alloc (.cells #[Value.int .u8 t.1, .int .u32 t.2.1, .int .u32 t.2.2, .slice (some ⟨gn, 0, none⟩) n cap2, .slice (some ⟨(w3.heap.size + 1), 0, none⟩) n n, .slice (some ⟨w3.heap.size, 0, none⟩) n n, .int .i64 1] 85)).drew = w5 at HF5 hHeld ⊢
                have q5 : w5.cell? ⟨q, 0, none⟩ = some rv := (HF5.out.below.cell (p := ⟨q, 0, none⟩) (H4.out.1.hi q H4.out.1.fq)).trans hq0
                refine wpAnyH_ready (rs := [15]) (by kernel_rfl) (by simp) ?_
                refine AllReadyH.cons (o := { dst := some 74, op := Op.call { callee := Callee.builtin Builtin.append, args := #[Operand.tmp 63, Operand.tmp 73], argTypes := #[27, 27] }, type := 27, pos := "ref.go:107", after := #[{ on := 4, ground := Ground.data }, { on := 14, ground := Ground.data }], guard := none }) rfl (fun K hK => ?_) AllReadyH.nil
                have h5 := H4.out.1.below HF5.out.below
                refine step_append_lies _ rfl (.tmp 63) (.tmp 73) 27 rfl B 85 ir _ 7 96 Try.underlying27 HIR.out.1 HIR.out.2.1 HIR.out.2.2.1 HIR.out.2.2.2 rfl (by decide) rv CL.length (CL.flatMap cells7) rfl h5.rrow _ 1 1 (cells7 (RC.mk t gn cap2 (w3.heap.size + 1) w3.heap.size (newRun L))) rfl rfl HF5.out.news (one7 _) (by decide) (by unfold maxLen; omega) (by omega) h5.base _ rfl (fun g cap6 w6 hown6 hgrow6 hor6 _ => ?_)
                have HE := Lib.hid (rb_end (q := q) (RC.mk t gn cap2 (w3.heap.size + 1) w3.heap.size (newRun L)) HBW.out H3.out H4.out.1 HFH.out HND.out HF5.out ⟨rfl, rfl⟩ HN.out n1 (by first | exact .inl ⟨rfl, rfl⟩ | exact .inr ⟨rfl, rfl⟩) HRF.out.2.2 HRF.out.2.1 hown6 hgrow6 hor6)
                have hbr : rv.ownBlock ≠ some w.heap.size := fun e => Nat.lt_irrefl _ (HFH.out _ (H4.out.1.fr _ e))
                have hqr : rv.ownBlock ≠ some q := fun e => by
                  obtain ⟨_, cur, h⟩ := own_obj H4.out.1.rrow e
                  rw [H4.out.1.cell] at h; cases h
                refine hK.out _ _ ⟨grown_cell2 hgrow6 hbr hHeld.1, grown_cell2 hgrow6 hbr hHeld.2.1, grown_cell2 hgrow6 hbr hHeld.2.2⟩ (fun hHeld => ?_)
                clear hK K
                try simp only [Act.put, List.setIfInBounds_toArray, List.set_cons_zero, List.set_cons_succ]
                have q6 := grown_cell2 hgrow6 hqr q5
                have f6 : w6.frozen? ⟨q, 0, none⟩ = false := by
                  have h7 := (hgrow6.block q (World.block_lt_of_cell? w5 ⟨q, 0, none⟩ q5) (fun e => hqr e.symm)).trans h5.cell
                  simp [World.frozen?, h7]
                clear hown6 hgrow6 hor6 h5
                refine wpAnyH_take (i := 16) (oi := { dst := some 75, op := Op.nilCheck (Operand.tmp 59), type := 0, pos := "ref.go:107", after := #[{ on := 0, ground := Ground.data }, { on := 0, ground := Ground.phase }, { on := 1, ground := Ground.phase }, { on := 2, ground := Ground.phase }, { on := 3, ground := Ground.phase }, { on := 4, ground := Ground.phase }, { on := 5, ground := Ground.phase }, { on := 6, ground := Ground.phase }, { on := 7, ground := Ground.phase }, { on := 8, ground := Ground.phase }, { on := 9, ground := Ground.phase }, { on := 10, ground := Ground.phase }, { on := 11, ground := Ground.phase }, { on := 12, ground := Ground.phase }, { on := 13, ground := Ground.phase }, { on := 14, ground := Ground.phase }, { on := 15, ground := Ground.phase }], guard := none }) (v := ?_) rfl (by kernel_rfl) (by kernel_rfl) (by kernel_rfl) (fun _ _ _ h => h) (Or.inl ⟨by rfl, ?_⟩) (by assumption) ?_
                rotate_left
                focus (intro w' hSw; (try dsimp only at hSw); go_simp; try with_reducible rfl)
                try simp only [Act.put, List.setIfInBounds_toArray, List.set_cons_zero, List.set_cons_succ]
                refine wpAnyH_take (i := 17) (oi := { dst := some 76, op := Op.fieldAddr 30 (Operand.tmp 75) 0, type := 0, pos := "ref.go:107", after := #[{ on := 16, ground := Ground.data }, { on := 0, ground := Ground.phase }, { on := 1, ground := Ground.phase }, { on := 2, ground := Ground.phase }, { on := 3, ground := Ground.phase }, { on := 4, ground := Ground.phase }, { on := 5, ground := Ground.phase }, { on := 6, ground := Ground.phase }, { on := 7, ground := Ground.phase }, { on := 8, ground := Ground.phase }, { on := 9, ground := Ground.phase }, { on := 10, ground := Ground.phase }, { on := 11, ground := Ground.phase }, { on := 12, ground := Ground.phase }, { on := 13, ground := Ground.phase }, { on := 14, ground := Ground.phase }, { on := 15, ground := Ground.phase }], guard := none }) (v := ?_) rfl (by kernel_rfl) (by kernel_rfl) (by kernel_rfl) (fun _ _ _ h => h) (Or.inl ⟨by rfl, ?_⟩) (by assumption) ?_
                rotate_left
                focus (intro w' hSw; (try dsimp only at hSw); go_simp; try with_reducible rfl)
                try simp only [Act.put, List.setIfInBounds_toArray, List.set_cons_zero, List.set_cons_succ]
                refine wpAnyH_ready (rs := [18]) (by kernel_rfl) (by simp) ?_
                refine AllReadyH.cons (o := { dst := none, op := Op.store 27 (Operand.tmp 76) (Operand.tmp 74), type := 0, pos := "ref.go:107", after := #[{ on := 17, ground := Ground.data }, { on := 15, ground := Ground.data }, { on := 15, ground := Ground.chain }, { on := 0, ground := Ground.phase }, { on := 1, ground := Ground.phase }, { on := 2, ground := Ground.phase }, { on := 3, ground := Ground.phase }, { on := 4, ground := Ground.phase }, { on := 5, ground := Ground.phase }, { on := 6, ground := Ground.phase }, { on := 7, ground := Ground.phase }, { on := 8, ground := Ground.phase }, { on := 9, ground := Ground.phase }, { on := 10, ground := Ground.phase }, { on := 11, ground := Ground.phase }, { on := 12, ground := Ground.phase }, { on := 13, ground := Ground.phase }, { on := 14, ground := Ground.phase }, { on := 15, ground := Ground.phase }], guard := none }) rfl (fun K hK => ?_) AllReadyH.nil
                go_simp
                have hqb : q ≠ w.heap.size := Nat.ne_of_lt (HFH.out q H4.out.1.fq)
                refine hK.out _ _ ⟨(World.cell?_setCell_far w6 ⟨q, 0, none⟩ ⟨w.heap.size, 0, none⟩ _ hqb).trans hHeld.1, (World.cell?_setCell_far w6 ⟨q, 0, none⟩ ⟨w.heap.size, 1, none⟩ _ hqb).trans hHeld.2.1, (World.cell?_setCell_far w6 ⟨q, 0, none⟩ ⟨w.heap.size, 2, none⟩ _ hqb).trans hHeld.2.2⟩ (fun hHeld => ?_)
                clear hK K
                refine wpAnyH_done (by kernel_rfl) ?_ _
                go_wp2
                go_ret
                exact ⟨rfl, HE.out⟩
              · go_simp
                refine hK.out _ _ ⟨cell_old (cell_old (cell_old x0)), cell_old (cell_old (cell_old x1)), cell_old (cell_old (cell_old x2))⟩ (fun hHeld => ?_)
                clear hK K
                try simp only [Act.put, List.setIfInBounds_toArray, List.set_cons_zero, List.set_cons_succ]
                have hf := five w3 n (RC.mk t gn cap2 (w3.heap.size + 1) w3.heap.size (newRun L))
                rw [show (cells7 (RC.mk t gn cap2 (w3.heap.size + 1) w3.heap.size (newRun L))).toArray = #[Value.int .u8 t.1, .int .u32 t.2.1, .int .u32 t.2.2, .slice (some ⟨gn, 0, none⟩) n cap2, .slice (some ⟨(w3.heap.size + 1), 0, none⟩) n n, .slice (some ⟨w3.heap.size, 0, none⟩) n n, .int .i64 1] from by unfold cells7; simp only [HN.out]; rfl] at hf
                have HF5 := Lib.hid hf
                clear hf hbd
                generalize (((w3.alloc (.cells (Array.replicate n (.bool false)) 4)).alloc (.cells (Array.replicate n (.bool false)) 4)).alloc (.cells #[Value.int .u8 t.1, .int .u32 t.2.1, .int .u32 t.2.2, .slice (some ⟨gn, 0, none⟩) n cap2, .slice (some ⟨(w3.heap.size + 1), 0, none⟩) n n, .slice (some ⟨w3.heap.size, 0, none⟩) n n, .int .i64 1] 85)).drew = w5 at HF5 hHeld ⊢
                have q5 : w5.cell? ⟨q, 0, none⟩ = some rv := (HF5.out.below.cell (p := ⟨q, 0, none⟩) (H4.out.1.hi q H4.out.1.fq)).trans hq0
                refine wpAnyH_ready (rs := [4]) (by kernel_rfl) (by simp) ?_
                refine (AllReadyH.cons (o := { dst := some 63, op := Op.load 27 (Operand.tmp 62), type := 27, pos := "ref.go:107", after := #[{ on := 3, ground := Ground.data }], guard := none }) rfl (fun K hK => ?_) AllReadyH.nil)
                refine step_turns rfl (exec_load1 rfl (agg27 _) rfl q5) ?_
                refine hK.out _ _ (by go_keep) (fun hHeld => ?_)
                clear hK K
                try simp only [Act.put, List.setIfInBounds_toArray, List.set_cons_zero, List.set_cons_succ]
                refine wpAnyH_ready (rs := [15]) (by kernel_rfl) (by simp) ?_
                refine AllReadyH.cons (o := { dst := some 74, op := Op.call { callee := Callee.builtin Builtin.append, args := #[Operand.tmp 63, Operand.tmp 73], argTypes := #[27, 27] }, type := 27, pos := "ref.go:107", after := #[{ on := 4, ground := Ground.data }, { on := 14, ground := Ground.data }], guard := none }) rfl (fun K hK => ?_) AllReadyH.nil
                have h5 := H4.out.1.below HF5.out.below
                refine step_append_lies _ rfl (.tmp 63) (.tmp 73) 27 rfl B 85 ir _ 7 96 Try.underlying27 HIR.out.1 HIR.out.2.1 HIR.out.2.2.1 HIR.out.2.2.2 rfl (by decide) rv CL.length (CL.flatMap cells7) rfl h5.rrow _ 1 1 (cells7 (RC.mk t gn cap2 (w3.heap.size + 1) w3.heap.size (newRun L))) rfl rfl HF5.out.news (one7 _) (by decide) (by unfold maxLen; omega) (by omega) h5.base _ rfl (fun g cap6 w6 hown6 hgrow6 hor6 _ => ?_)
                have HE := Lib.hid (rb_end (q := q) (RC.mk t gn cap2 (w3.heap.size + 1) w3.heap.size (newRun L)) HBW.out H3.out H4.out.1 HFH.out HND.out HF5.out ⟨rfl, rfl⟩ HN.out n1 (by first | exact .inl ⟨rfl, rfl⟩ | exact .inr ⟨rfl, rfl⟩) HRF.out.2.2 HRF.out.2.1 hown6 hgrow6 hor6)
                have hbr : rv.ownBlock ≠ some w.heap.size := fun e => Nat.lt_irrefl _ (HFH.out _ (H4.out.1.fr _ e))
                have hqr : rv.ownBlock ≠ some q := fun e => by
                  obtain ⟨_, cur, h⟩ := own_obj H4.out.1.rrow e
                  rw [H4.out.1.cell] at h; cases h
                refine hK.out _ _ ⟨grown_cell2 hgrow6 hbr hHeld.1, grown_cell2 hgrow6 hbr hHeld.2.1, grown_cell2 hgrow6 hbr hHeld.2.2⟩ (fun hHeld => ?_)
                clear hK K
                try simp only [Act.put, List.setIfInBounds_toArray, List.set_cons_zero, List.set_cons_succ]
                have q6 := grown_cell2 hgrow6 hqr q5
                have f6 : w6.frozen? ⟨q, 0, none⟩ = false := by
                  have h7 := (hgrow6.block q (World.block_lt_of_cell? w5 ⟨q, 0, none⟩ q5) (fun e => hqr e.symm)).trans h5.cell
                  simp [World.frozen?, h7]
                clear hown6 hgrow6 hor6 h5
                refine wpAnyH_take (i := 16) (oi := { dst := some 75, op := Op.nilCheck (Operand.tmp 59), type := 0, pos := "ref.go:107", after := #[{ on := 0, ground := Ground.data }, { on := 0, ground := Ground.phase }, { on := 1, ground := Ground.phase }, { on := 2, ground := Ground.phase }, { on := 3, ground := Ground.phase }, { on := 4, ground := Ground.phase }, { on := 5, ground := Ground.phase }, { on := 6, ground := Ground.phase }, { on := 7, ground := Ground.phase }, { on := 8, ground := Ground.phase }, { on := 9, ground := Ground.phase }, { on := 10, ground := Ground.phase }, { on := 11, ground := Ground.phase }, { on := 12, ground := Ground.phase }, { on := 13, ground := Ground.phase }, { on := 14, ground := Ground.phase }, { on := 15, ground := Ground.phase }], guard := none }) (v := ?_) rfl (by kernel_rfl) (by kernel_rfl) (by kernel_rfl) (fun _ _ _ h => h) (Or.inl ⟨by rfl, ?_⟩) (by assumption) ?_
                rotate_left
                focus (intro w' hSw; (try dsimp only at hSw); go_simp; try with_reducible rfl)
                try simp only [Act.put, List.setIfInBounds_toArray, List.set_cons_zero, List.set_cons_succ]
                refine wpAnyH_take (i := 17) (oi := { dst := some 76, op := Op.fieldAddr 30 (Operand.tmp 75) 0, type := 0, pos := "ref.go:107", after := #[{ on := 16, ground := Ground.data }, { on := 0, ground := Ground.phase }, { on := 1, ground := Ground.phase }, { on := 2, ground := Ground.phase }, { on := 3, ground := Ground.phase }, { on := 4, ground := Ground.phase }, { on := 5, ground := Ground.phase }, { on := 6, ground := Ground.phase }, { on := 7, ground := Ground.phase }, { on := 8, ground := Ground.phase }, { on := 9, ground := Ground.phase }, { on := 10, ground := Ground.phase }, { on := 11, ground := Ground.phase }, { on := 12, ground := Ground.phase }, { on := 13, ground := Ground.phase }, { on := 14, ground := Ground.phase }, { on := 15, ground := Ground.phase }], guard := none }) (v := ?_) rfl (by kernel_rfl) (by kernel_rfl) (by kernel_rfl) (fun _ _ _ h => h) (Or.inl ⟨by rfl, ?_⟩) (by assumption) ?_
                rotate_left
                focus (intro w' hSw; (try dsimp only at hSw); go_simp; try with_reducible rfl)
                try simp only [Act.put, List.setIfInBounds_toArray, List.set_cons_zero, List.set_cons_succ]
                refine wpAnyH_ready (rs := [18]) (by kernel_rfl) (by simp) ?_
                refine AllReadyH.cons (o := { dst := none, op := Op.store 27 (Operand.tmp 76) (Operand.tmp 74), type := 0, pos := "ref.go:107", after := #[{ on := 17, ground := Ground.data }, { on := 15, ground := Ground.data }, { on := 15, ground := Ground.chain }, { on := 0, ground := Ground.phase }, { on := 1, ground := Ground.phase }, { on := 2, ground := Ground.phase }, { on := 3, ground := Ground.phase }, { on := 4, ground := Ground.phase }, { on := 5, ground := Ground.phase }, { on := 6, ground := Ground.phase }, { on := 7, ground := Ground.phase }, { on := 8, ground := Ground.phase }, { on := 9, ground := Ground.phase }, { on := 10, ground := Ground.phase }, { on := 11, ground := Ground.phase }, { on := 12, ground := Ground.phase }, { on := 13, ground := Ground.phase }, { on := 14, ground := Ground.phase }, { on := 15, ground := Ground.phase }], guard := none }) rfl (fun K hK => ?_) AllReadyH.nil
                go_simp
                have hqb : q ≠ w.heap.size := Nat.ne_of_lt (HFH.out q H4.out.1.fq)
                refine hK.out _ _ ⟨(World.cell?_setCell_far w6 ⟨q, 0, none⟩ ⟨w.heap.size, 0, none⟩ _ hqb).trans hHeld.1, (World.cell?_setCell_far w6 ⟨q, 0, none⟩ ⟨w.heap.size, 1, none⟩ _ hqb).trans hHeld.2.1, (World.cell?_setCell_far w6 ⟨q, 0, none⟩ ⟨w.heap.size, 2, none⟩ _ hqb).trans hHeld.2.2⟩ (fun hHeld => ?_)
                clear hK K
                refine wpAnyH_done (by kernel_rfl) ?_ _
                go_wp2
                go_ret
                exact ⟨rfl, HE.out⟩
end Go.Proofs.Ytklalpamcfkngaa.Cm
