/- index: Put where nothing stood, walked. -/
import Derived.Test.YthjcohaldjfniaaL3
namespace Go.Proofs.Ythjcohaldjfniaa.Ix
open Go Go.RowKit
open Pq (Pg pv fq)
open It (fl)
theorem three {X : List Pg} {fr tu : Nat} (hft : fr ≤ tu) : X = X.take fr ++ ((X.drop fr).take (tu - fr) ++ X.drop tu) := by
  conv => lhs; rw [← List.take_append_drop fr X, ← List.take_append_drop (tu - fr) (X.drop fr), List.drop_drop]
  rw [show fr + (tu - fr) = tu by omega]
theorem rest_nodup {X : List Pg} (h : (X.map Pg.g).Nodup) {fr tu : Nat} (hft : fr ≤ tu) : ((X.take fr ++ X.drop tu).map Pg.g).Nodup ∧ ∀ s ∈ X.take fr ++ X.drop tu, ∀ j t, fr ≤ j → j < tu → X[j]? = some t → s.g ≠ t.g := by
  have e := three (X := X) hft
  rw [e, List.map_append, List.map_append, List.nodup_append, List.nodup_append] at h
  obtain ⟨n1, ⟨n2, n3, n4⟩, n5⟩ := h
  refine ⟨?_, fun s hs j t h1 h2 ht => ?_⟩
  · rw [List.map_append, List.nodup_append]
    exact ⟨n1, n3, fun a ha b hb => n5 a ha b (List.mem_append_right _ hb)⟩
  · have hm : t ∈ (X.drop fr).take (tu - fr) := by
      refine List.mem_of_getElem? (i := j - fr) ?_
      rw [List.getElem?_take, if_pos (by omega), List.getElem?_drop, show fr + (j - fr) = j by omega]
      exact ht
    have hm' : t.g ∈ ((X.drop fr).take (tu - fr)).map Pg.g := List.mem_map.2 ⟨t, hm, rfl⟩
    rcases List.mem_append.1 hs with hs | hs
    · exact n5 _ (List.mem_map.2 ⟨s, hs, rfl⟩) _ (List.mem_append_left _ hm')
    · exact fun e => n4 _ hm' _ (List.mem_map.2 ⟨s, hs, rfl⟩) e.symm
theorem IdxAt.fixed {w w' : World} {B p : Nat} {F : Nat → Prop} {v : Value} {X : List Pg} {t : Pg} (h : IdxAt w B F p v X) (ht : t ∈ X) (hg : w.grownBy w' (some t.g)) : RowAt w' B p (cont X).length v X ∧ Turned F w w' ∧ ∀ s ∈ X, s.g ≠ t.g → PgAt w' s := by
  have hP := h.pgs t ht
  have hne : t.g ≠ p := hP.1.ne h.cell (by decide)
  have hrv := row_ne hP.1 h.row
  refine ⟨h.rowAt.on (hg.block p (h.hi p h.fp) (fun e => hne (by injection e with e; exact e.symm))) (fun g e => hg.block g (World.ownsRow.lt h.row g e).2 (fun e2 => hrv (by rw [e]; exact e2))) hg.size, Turned.of_grown hg (fun k e => by injection e with e; subst e; exact hP.2), fun s hs hn => (h.pgs s hs).1.on (hg.block _ (h.pgs s hs).1.lt (fun e => hn (by injection e)))⟩
set_option maxRecDepth 100000 in
set_option maxHeartbeats 1000000 in
theorem put_ins (B p : Nat) (F : Nat → Prop) (v : Value) (X : List Pg) (k u : Int) (w : World) (h : IdxAt w B F p v X) (h0 : ¬ hasL (cont X) k) (hX0 : 0 < X.length) (hn : (cont X).length < 4096) :
    Calls Try.prog 10 #[.pointer (some ⟨p, 0, none⟩), .int .u64 k, .int .u64 u] w (PutE w B F p (putL (cont X) k u)) := by
  have hXl := cont_len h.fit
  have HF := Lib.hid (find_any h hX0 (by omega) k)
  have H := Lib.hid h
  have H0 := Lib.hid h0
  obtain ⟨ao, cap, ev, _, hcell⟩ := h.slice
  obtain ⟨g, rfl, _⟩ := hcell hX0
  subst ev
  have n0 : (((cont X).length : Int) == 0) = false := beq_eq_false_iff_ne.2 (by omega)
  have n1 : (((cont X).length : Int) == 4096) = false := beq_eq_false_iff_ne.2 (by omega)
  clear h h0 hcell
  go_enter Try.func10, Try.ntmps10
  go_upto_region 5 with (go_at_call 24; refine HF.out.mono ?_; rintro e w1 ⟨pg, i, ok, rfl, hR, hb1⟩; have HR := Lib.hid hR; have HB := Lib.hid hb1; clear hR hb1)
  obtain ⟨t, ht, hi, hA, hC, hno, hyes⟩ := find_split H.out.fit HR.out
  obtain rfl : ok = false := by
    cases ok with
    | false => rfl
    | true => exact absurd (hyes rfl).1 H0.out
  have hgt := (hno rfl).1
  have h1 := H.out.below HB.out
  have c0 := h1.cells.1
  have cn := h1.cells.2
  have c1 : w1.cell? ⟨g, pg, none⟩ = some (pv t) := by
    obtain ⟨_, _, e, _, hc⟩ := h1.slice
    obtain ⟨_, e2, hc⟩ := hc hX0
    simp only [Value.slice.injEq] at e
    obtain ⟨rfl, _, _⟩ := e
    simp only [Option.some.injEq, Addr.mk.injEq, and_true] at e2
    subst e2
    exact hc pg t ht
  have hpl0 := (List.getElem?_eq_some_iff.1 ht).1
  have hpl : (pg : Int) < (X.length : Int) := by omega
  have htm := List.mem_of_getElem? ht
  have hb2 := (Below.refl w1.heap.size w1).alloc (Nat.le_refl _) (.cells #[.int .u64 k, .int .u64 u] 42)
  have h2 := h1.below hb2
  have hP := h2.pgs t htm
  have ht8 := h1.fit.one t htm
  have hlt := (h1.pgs t htm).1.lt
  have HI := Lib.hid (It.insert_any B (pv t) t.P i (some ⟨w1.heap.size, 0, none⟩) 1 1 [(k, u)] _ (hP.1.own (h2.low _ hP.2)) hi h2.base (by omega) (by omega) ⟨rfl, fun _ => ⟨w1.heap.size, rfl, (fun e => by simp [pv, Value.ownBlock] at e; omega), _, heap_alloc_new w1 _, fun j x hx => by simpa [fl] using hx⟩⟩)
  have H1 := Lib.hid (And.intro h1 h2)
  have HT := Lib.hid (And.intro ht (And.intro hA (And.intro hC (And.intro hgt (And.intro hi ht8)))))
  obtain ⟨pu, epu⟩ : ∃ pu : Nat, pu = pg + 1 := ⟨_, rfl⟩
  have ipu : (pg : Int) + 1 = (pu : Int) := by omega
  have EP := Lib.hid epu
  have c2 : (w1.alloc (.cells #[.int .u64 k, .int .u64 u] 42)).cell? ⟨g, pg, none⟩ = some (pv t) := (hb2.cell (p := ⟨g, pg, none⟩) (World.block_lt_of_cell? w1 _ c1)).trans c1
  unfold pv at c1 c2
  clear ht hi hA hC hno hyes hgt h1 h2 hb2 hP htm ht8 epu
  unfold pv at HI
  go_wp2_with fail
  refine HI.out.mono ?_
  rintro e w3 ⟨v3, rfl, hown, hg, hv3⟩
  obtain ⟨ht, hA, hC, hgt, hi, ht8⟩ := HT.out
  have hl3 : (t.P.take i ++ [(k, u)] ++ t.P.drop i).length = t.P.length + 1 := by simp; omega
  obtain ⟨t3, e3, p3, q3, _⟩ := PgAt.of_own hown rfl (by omega)
  have hg3 : t3.g = t.g ∨ w1.heap.size ≤ t3.g := by
    have := hv3 t3.g (by rw [e3]; rfl)
    simp [Value.ownBlock] at this
    omega
  have htm := List.mem_of_getElem? ht
  obtain ⟨hRw, hTd, hks⟩ := H1.out.2.fixed htm hg
  have hl9 : t3.P.length ≤ 9 := by rw [p3]; omega
  have hx : X.length ≤ 99990 := by omega
  have hpu := EP.out
  have HL := Lib.hid (lay_any B p _ _ X pg pu t3 w3 hRw (by omega) (by omega) hx q3 (by omega))
  have HX := Lib.hid (And.intro hg3 (And.intro p3 (And.intro q3 (And.intro hRw (And.intro hTd hks)))))
  subst e3
  unfold pv at HL ⊢
  clear hown hg hv3 ht hA hC hgt hi ht8 hl3 hg3 htm hRw hTd hks p3 q3 hl9 hx hpu
  go_wp2_with fail
  refine HL.out.mono ?_
  rintro e w4 hl
  obtain ⟨rfl, wa, ys, v', hba, hy, hR, hTu, hv'⟩ := id hl
  have d1 : w4.cell? ⟨p, 1, none⟩ = some (.int .i64 (cont X).length) := by simp [World.cell?, hR.1]
  have f1 := free1 (i := 1) hR.1
  have H2 := Lib.hid hl
  clear hba hy hR hTu hv' hl
  go_wp2_with fail
  go_ret
  obtain ⟨hg3, p3, q3, hRw, hTd, hks⟩ := HX.out
  obtain ⟨ht, hA, hC, hgt, hi, ht8⟩ := HT.out
  obtain rfl := EP.out
  obtain ⟨h1, h2⟩ := H1.out
  have htm := List.mem_of_getElem? ht
  obtain ⟨r1, r2⟩ := rest_nodup h1.one (fr := pg) (tu := pg + 1) (by omega)
  have hmem : ∀ s ∈ X.take pg ++ X.drop (pg + 1), s ∈ X := fun s hs => by
    rcases List.mem_append.1 hs with h | h
    · exact List.mem_of_mem_take h
    · exact List.mem_of_mem_drop h
  have hb2 := (Below.refl w1.heap.size w1).alloc (Nat.le_refl _) (.cells #[.int .u64 k, .int .u64 u] 42)
  have e9 : cont (X.take pg) ++ t3.P ++ cont (X.drop (pg + 1)) = putL (cont X) k u := by
    rw [hC, p3]
    have := put_split (A := cont (X.take pg) ++ t.P.take i) (D := []) (C := t.P.drop i ++ cont (X.drop (pg + 1))) (k := k) (u := u) hA (by simp) hgt
    simp only [List.append_assoc, List.cons_append, List.nil_append] at this ⊢
    rw [this]
  have hsort : Sorted (cont (X.take pg) ++ t3.P ++ cont (X.drop (pg + 1))) := by
    have hs := h1.fit.up
    rw [hC] at hs
    obtain ⟨s1, s2, _⟩ := sorted_app hs
    have := put_sorted (k := k) (u := u) hA hgt s1 s2
    rw [p3]
    simp only [List.append_assoc, List.cons_append, List.nil_append] at this ⊢
    exact this
  refine ⟨rfl, Did.ahead (w1 := w1) ?_ HB.out⟩
  rw [← e9]
  refine fin_any (fr := pg) (tu := pg + 1) (t := t3) h1 hRw ((below_any hb2).trans hTd (fun j hj => .inl hj)) (fun s hs => hks s (hmem s hs) (r2 s hs pg t (Nat.le_refl _) (by omega) ht)) q3 r1 (fun s hs => ?_) (hg3.imp (fun e => by rw [e]; exact (h1.pgs t htm).2) id) H2.out (fun hne => ?_) (by rw [p3]; simp; omega) (.inl (by rw [p3]; simp; omega)) hsort ?_
  · rcases hg3 with e | e
    · rw [e]; exact r2 s hs pg t (Nat.le_refl _) (by omega) ht
    · have := (h1.pgs s (hmem s hs)).1.lt; omega
  · rcases Nat.lt_or_ge 1 X.length with h3 | h3
    · exact h3
    · exact absurd (List.eq_nil_of_length_eq_zero (by simp; omega)) hne
  · rw [hC, p3]
    simp only [List.length_append, List.length_cons, List.length_nil]
    omega
set_option maxRecDepth 100000 in
theorem put_full (B p : Nat) (F : Nat → Prop) (v : Value) (X : List Pg) (k u : Int) (w : World) (h : IdxAt w B F p v X) (h0 : ¬ hasL (cont X) k) (hn : (cont X).length = 4096) :
    Calls Try.prog 10 #[.pointer (some ⟨p, 0, none⟩), .int .u64 k, .int .u64 u] w fun e w' => e = .returned (.int .i64 10) ∧ Below w.heap.size w w' := by
  have hX0 : 0 < X.length := by
    cases X with
    | nil => simp [cont] at hn
    | cons => simp
  have hXl := cont_len h.fit
  have HF := Lib.hid (find_any h hX0 (by omega) k)
  have H := Lib.hid h
  have H0 := Lib.hid h0
  have n1 : (((cont X).length : Int) == 4096) = true := by rw [hn]; rfl
  have HN := Lib.hid hn
  clear h h0 hn
  go_enter Try.func10, Try.ntmps10
  go_upto_region 5 with (go_at_call 24; refine HF.out.mono ?_; rintro e w1 ⟨pg, i, ok, rfl, hR, hb1⟩; have HR := Lib.hid hR; have HB := Lib.hid hb1; clear hR hb1)
  obtain ⟨t, ht, hi, hA, hC, hno, hyes⟩ := find_split H.out.fit HR.out
  obtain rfl : ok = false := by
    cases ok with
    | false => rfl
    | true => exact absurd (hyes rfl).1 H0.out
  have cn := (H.out.below HB.out).cells.2
  clear ht hi hA hC hno hyes
  go_wp2_with fail
  go_ret
  exact ⟨rfl, HB.out⟩
theorem not_has_nil (k : Int) : ¬ hasL [] k := by rintro ⟨e, he, _⟩; simp at he
theorem put_ok {w : World} {B p : Nat} {F : Nat → Prop} {v : Value} {X : List Pg} (h : IdxAt w B F p v X) (k u : Int) (hn : (cont X).length ≤ 4096) (h0 : hasL (cont X) k ∨ (cont X).length < 4096) :
    Calls Try.prog 10 #[.pointer (some ⟨p, 0, none⟩), .int .u64 k, .int .u64 u] w (PutE w B F p (putL (cont X) k u)) := by
  by_cases hh : hasL (cont X) k
  · exact put_set B p F v X k u w h hh hn
  · cases X with
    | nil => exact put_first B p F v k u w h
    | cons t X => exact put_ins B p F v _ k u w h hh (by simp) (h0.resolve_left hh)
end Go.Proofs.Ythjcohaldjfniaa.Ix
