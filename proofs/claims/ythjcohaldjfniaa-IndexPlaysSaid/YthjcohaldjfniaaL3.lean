/- index: Put, walked. -/
import Derived.Test.YthjcohaldjfniaaM2
namespace Go.Proofs.Ythjcohaldjfniaa.Ix
open Go Go.RowKit
open Pq (Pg pv fq)
open It (fl)
def PutE (w : World) (B : Nat) (F : Nat → Prop) (p : Nat) (M : IL) (e : Ending) (w' : World) : Prop := e = .returned (.int .i64 0) ∧ Did w B F p M w'
theorem put_nil (k u : Int) (w : World) : Calls Try.prog 10 #[.pointer none, .int .u64 k, .int .u64 u] w fun e w' => e = .returned (.int .i64 6) ∧ w = w' := by
  go_enter Try.func10, Try.ntmps10
  go_wp2
  go_ret
  exact ⟨rfl, rfl⟩
theorem IdxAt.rowAt {w : World} {B p : Nat} {F : Nat → Prop} {v : Value} {X : List Pg} (h : IdxAt w B F p v X) : RowAt w B p (cont X).length v X := ⟨h.cell, h.row, h.base⟩
set_option maxRecDepth 100000 in
set_option maxHeartbeats 1000000 in
theorem put_first (B p : Nat) (F : Nat → Prop) (v : Value) (k u : Int) (w : World) (h : IdxAt w B F p v []) :
    Calls Try.prog 10 #[.pointer (some ⟨p, 0, none⟩), .int .u64 k, .int .u64 u] w (PutE w B F p [(k, u)]) := by
  have HF := Lib.hid (find_none h k)
  have H := Lib.hid h
  clear h
  go_enter Try.func10, Try.ntmps10
  go_upto_region 8 with (go_at_call 24; refine HF.out.mono ?_; rintro e w1 ⟨rfl, hb1⟩)
  have h1 := H.out.below hb1
  have c1 := h1.cells.2
  have hp1 := hb1.size
  have HB1 := Lib.hid hb1
  have hb2 := (Below.refl w1.heap.size w1).alloc (Nat.le_refl _) (.cells #[.int .u64 k, .int .u64 u] 42)
  have HB2 := Lib.hid hb2
  have hP : PgAt (w1.alloc (.cells #[.int .u64 k, .int .u64 u] 42)) ⟨w1.heap.size, 1, [(k, u)]⟩ := ⟨[.int .u64 k, .int .u64 u], heap_alloc_new w1 _, rfl, Nat.le_refl _, (show 1 ≤ maxLen by unfold maxLen; omega), rfl⟩
  have HP := Lib.hid hP
  have HL := Lib.hid (lay_any B p _ v [] 0 0 ⟨w1.heap.size, 1, [(k, u)]⟩ _ (h1.rowAt.below hb2) (Nat.le_refl _) (Nat.le_refl _) (by simp) hP (by simp))
  simp only [cont, List.flatMap_nil, List.length_nil] at c1
  clear hb1 h1 hb2 hP
  go_wp2_with fail
  refine HL.out.mono ?_
  rintro e w2 hl
  obtain ⟨rfl, wa, ys, v', hba, hy, hR, hTu, hv'⟩ := id hl
  have d1 : w2.cell? ⟨p, 1, none⟩ = some (.int .i64 0) := by simp [World.cell?, hR.1]; rfl
  have f1 := free1 (i := 1) hR.1
  have H2 := Lib.hid hl
  clear hba hy hR hTu hv' hl
  go_wp2_with fail
  go_ret
  have hb1 := HB1.out
  have h1 := H.out.below hb1
  refine ⟨rfl, Did.ahead (w1 := w1) ?_ hb1⟩
  exact fin_any (fr := 0) (tu := 0) (t := ⟨w1.heap.size, 1, [(k, u)]⟩) (n' := 1) h1 (h1.rowAt.below HB2.out) (below_any HB2.out) (by simp) HP.out (by simp) (by simp) (.inr (Nat.le_refl _)) H2.out (by simp) (by simp) (.inr (by simp)) (by simp [cont, Sorted]) (by simp [cont])
/-- A value laid in the place of another one. -/
theorem set_any {w : World} {B p : Nat} {F : Nat → Prop} {v : Value} {X : List Pg} (h : IdxAt w B F p v X) {pg i : Nat} {k u u0 : Int} {t : Pg} (ht : X[pg]? = some t) (hi : t.P[i]? = some (k, u0)) :
    Did w B F p (cont (X.take pg) ++ t.P.set i (k, u) ++ cont (X.drop (pg + 1))) (w.setCell ⟨t.g, i * 2 + 1, none⟩ (.int .u64 u)) := by
  obtain ⟨hl, hi'⟩ := List.getElem?_eq_some_iff.1 hi
  have hm := List.mem_of_getElem? ht
  obtain ⟨⟨cur, h1, h2, h3, h4, h5⟩, hF⟩ := h.pgs t hm
  have hgs := grown_set w t.g (i * 2 + 1) (.int .u64 u)
  have hX := split_at ht
  have hne : p ≠ t.g := fun e => by
    have h6 := h.cell
    rw [e, h1] at h6
    simp at h6
  have hrv : v.ownBlock ≠ some t.g := row_ne ⟨cur, h1, h2, h3, h4, h5⟩ h.row
  obtain ⟨t1, e1⟩ : ∃ t1 : Pg, t1 = ⟨t.g, t.cap, t.P.set i (k, u)⟩ := ⟨_, rfl⟩
  have ep : pv t1 = pv t := by simp [pv, e1]
  have eq : fq (X.take pg ++ t1 :: X.drop (pg + 1)) = fq X := by
    conv => rhs; rw [hX]
    simp [fq, ep]
  have el : (X.take pg ++ t1 :: X.drop (pg + 1)).length = X.length := by
    conv => rhs; rw [hX]
    simp
  have ec : cont (X.take pg ++ t1 :: X.drop (pg + 1)) = cont (X.take pg) ++ t.P.set i (k, u) ++ cont (X.drop (pg + 1)) := by
    rw [cont_app, cont_cons, e1, List.append_assoc]
  have ecl : (cont (X.take pg ++ t1 :: X.drop (pg + 1))).length = (cont X).length := by
    rw [ec, cont_split ht]; simp
  have hnd : ((X.take pg ++ t1 :: X.drop (pg + 1)).map Pg.g) = X.map Pg.g := by
    conv => rhs; rw [hX]
    simp [e1]
  have hone := h.one
  have hsplit : ∀ s ∈ X.take pg ++ X.drop (pg + 1), s ∈ X ∧ s.g ≠ t.g := by
    intro s hs
    rw [hX, List.map_append, List.map_cons, List.nodup_append, List.nodup_cons] at hone
    obtain ⟨_, ⟨n2, _⟩, n3⟩ := hone
    rcases List.mem_append.1 hs with hs | hs
    · exact ⟨List.mem_of_mem_take hs, n3 _ (List.mem_map.2 ⟨s, hs, rfl⟩) _ (by simp)⟩
    · exact ⟨List.mem_of_mem_drop hs, fun e => n2 (by rw [← e]; exact List.mem_map.2 ⟨s, hs, rfl⟩)⟩
  have hkeys : (cont (X.take pg ++ t1 :: X.drop (pg + 1))).map (·.1) = (cont X).map (·.1) := by
    rw [ec, cont_split ht, set_drop hl]
    conv => rhs; rw [← List.take_append_drop i t.P, List.drop_eq_getElem_cons hl, hi']
    simp
  refine ⟨v, F, _, ⟨?_, ?_, ?_, by rw [hnd]; exact h.one, ⟨?_, ?_, ?_⟩, Nat.le_trans h.base hgs.size, h.fp, h.fv, fun j hj => Nat.lt_of_lt_of_le (h.hi j hj) hgs.size, h.low⟩, ec, fun j hj => .inl hj, Turned.of_grown hgs (fun j e => by injection e with e; subst e; exact hF)⟩
  · rw [ecl]; exact (hgs.block p (h.hi p h.fp) (fun e => hne (by injection e))).trans h.cell
  · rw [eq, el]; exact own_on h.row (fun g e => hgs.block g (World.ownsRow.lt h.row g e).2 (fun e2 => hrv (by rw [e]; exact e2)))
  · intro s hs
    simp only [List.mem_append, List.mem_cons] at hs
    have hs' : s = t1 ∨ s ∈ X.take pg ++ X.drop (pg + 1) := by simp only [List.mem_append]; exact hs.elim (fun a => .inr (.inl a)) (fun b => b.elim .inl (fun a => .inr (.inr a)))
    rcases hs' with rfl | hs'
    · subst e1
      refine ⟨⟨cur.set (i * 2 + 1) (.int .u64 u), ?_, by simpa using h2, by simpa using h3, h4, ?_⟩, hF⟩
      · show (w.setCell ⟨t.g, i * 2 + 1, none⟩ (.int .u64 u)).heap[t.g]? = _
        rw [set_block h1]
        simp
      · show (cur.set (i * 2 + 1) (.int .u64 u)).take ((t.P.set i (k, u)).length * 2) = fl (t.P.set i (k, u))
        rw [List.length_set, List.take_set, h5, set_drop hl, It.fl_app]
        conv => lhs; rw [← List.take_append_drop i t.P, List.drop_eq_getElem_cons hl, hi', It.fl_app]
        have e5 : (fl (t.P.take i)).length = i * 2 := by rw [It.fl_len, List.length_take]; omega
        rw [List.set_append_right _ _ (by omega), e5, show i * 2 + 1 - i * 2 = 1 by omega]
        rfl
    · obtain ⟨m1, m2⟩ := hsplit s hs'
      exact ⟨(h.pgs s m1).1.on (hgs.block _ (h.pgs s m1).1.lt (fun e => m2 (by injection e))), (h.pgs s m1).2⟩
  · intro s hs
    simp only [List.mem_append, List.mem_cons] at hs
    rcases hs with hs | rfl | hs
    · exact h.fit.one s (List.mem_of_mem_take hs)
    · rw [e1]; simpa using h.fit.one t hm
    · exact h.fit.one s (List.mem_of_mem_drop hs)
  · intro hx s hs
    rw [el] at hx
    simp only [List.mem_append, List.mem_cons] at hs
    rcases hs with hs | rfl | hs
    · exact h.fit.two hx s (List.mem_of_mem_take hs)
    · rw [e1]; simpa using h.fit.two hx t hm
    · exact h.fit.two hx s (List.mem_of_mem_drop hs)
  · have hs := h.fit.up
    unfold Sorted at hs ⊢
    rw [← List.pairwise_map (f := fun e : Int × Int => e.1) (R := fun a b => a < b)] at hs ⊢
    rw [hkeys]; exact hs
set_option maxRecDepth 100000 in
set_option maxHeartbeats 1000000 in
theorem put_set (B p : Nat) (F : Nat → Prop) (v : Value) (X : List Pg) (k u : Int) (w : World) (h : IdxAt w B F p v X) (h0 : hasL (cont X) k) (hn : (cont X).length ≤ 4096) :
    Calls Try.prog 10 #[.pointer (some ⟨p, 0, none⟩), .int .u64 k, .int .u64 u] w (PutE w B F p (putL (cont X) k u)) := by
  have hX0 : 0 < X.length := by
    obtain ⟨e, he, _⟩ := h0
    cases X with
    | nil => simp [cont] at he
    | cons => simp
  have hXl := cont_len h.fit
  have HF := Lib.hid (find_any h hX0 (by omega) k)
  have H := Lib.hid h
  have H0 := Lib.hid h0
  obtain ⟨ao, cap, ev, _, hcell⟩ := h.slice
  obtain ⟨g, rfl, _⟩ := hcell hX0
  subst ev
  clear h h0 hcell
  go_enter Try.func10, Try.ntmps10
  go_upto_region 5 with (go_at_call 24; refine HF.out.mono ?_; rintro e w1 ⟨pg, i, ok, rfl, hR, hb1⟩; have HR := Lib.hid hR; have HB := Lib.hid hb1; clear hR hb1)
  obtain ⟨t, ht, hi, hA, hC, hno, hyes⟩ := find_split H.out.fit HR.out
  obtain rfl : ok = true := by
    cases ok with
    | true => rfl
    | false => exact absurd H0.out (hno rfl).2
  obtain ⟨_, u0, hil, hiu, hd, hgt⟩ := hyes rfl
  have h1 := H.out.below HB.out
  have c0 := h1.cells.1
  have c1 : w1.cell? ⟨g, pg, none⟩ = some (pv t) := by
    obtain ⟨_, _, e, _, hc⟩ := h1.slice
    obtain ⟨_, e2, hc⟩ := hc hX0
    simp only [Value.slice.injEq] at e
    obtain ⟨rfl, _, _⟩ := e
    simp only [Option.some.injEq, Addr.mk.injEq, and_true] at e2
    subst e2
    exact hc pg t ht
  have hpl : (pg : Int) < (X.length : Int) := by have := (List.getElem?_eq_some_iff.1 ht).1; omega
  have hil' : (i : Int) < (t.P.length : Int) := by omega
  have hP := (h1.pgs t (List.mem_of_getElem? ht)).1
  have f1 : w1.frozen? ⟨t.g, i * 2 + 1, none⟩ = false := by
    obtain ⟨cur, hh, _⟩ := hP
    exact free1 hh
  have c2 := (hP.cells hiu).2
  have hD := set_any h1 (u := u) ht hiu
  have e9 : cont (X.take pg) ++ t.P.set i (k, u) ++ cont (X.drop (pg + 1)) = putL (cont X) k u := by
    rw [hC, hd, set_drop hil]
    have := put_split (A := cont (X.take pg) ++ t.P.take i) (D := [(k, u0)]) (C := t.P.drop (i + 1) ++ cont (X.drop (pg + 1))) (k := k) (u := u) hA (by simp) hgt
    simp only [List.append_assoc, List.cons_append, List.nil_append] at this ⊢
    rw [this]
  rw [e9] at hD
  have HD := Lib.hid (hD.ahead HB.out)
  unfold pv at c1
  clear ht hi hA hC hno hyes hiu hd hgt h1 hP hD e9
  go_wp2_with fail
  go_ret
  exact ⟨rfl, HD.out⟩
end Go.Proofs.Ythjcohaldjfniaa.Ix
