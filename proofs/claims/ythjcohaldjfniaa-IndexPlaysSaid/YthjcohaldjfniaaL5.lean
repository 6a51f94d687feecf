/- index: Delete, walked. -/
import Derived.Test.YthjcohaldjfniaaL4
namespace Go.Proofs.Ythjcohaldjfniaa.Ix
open Go Go.RowKit
open Pq (Pg pv fq)
open It (fl)
theorem del_nil (k : Int) (w : World) : Calls Try.prog 12 #[.pointer none, .int .u64 k] w fun e w' => e = .returned (.int .i64 6) ∧ Below w.heap.size w w' := by
  go_enter Try.func12, Try.ntmps12
  go_wp2_with (go_at_call 24; refine (find_nil k w).mono ?_; rintro e w1 ⟨rfl, hb1⟩; have HB := Lib.hid hb1; clear hb1)
  go_ret
  exact ⟨rfl, HB.out⟩
set_option maxRecDepth 100000 in
theorem del_none {w : World} {B p : Nat} {F : Nat → Prop} {v : Value} {X : List Pg} (h : IdxAt w B F p v X) (k : Int) (hn : (cont X).length ≤ 4096) (h0 : ¬ hasL (cont X) k) :
    Calls Try.prog 12 #[.pointer (some ⟨p, 0, none⟩), .int .u64 k] w fun e w' => e = .returned (.int .i64 6) ∧ Below w.heap.size w w' := by
  cases X with
  | nil =>
    have HF := Lib.hid (find_none h k)
    clear h h0
    go_enter Try.func12, Try.ntmps12
    go_wp2_with (go_at_call 24; refine HF.out.mono ?_; rintro e w1 ⟨rfl, hb1⟩; have HB := Lib.hid hb1; clear hb1)
    go_ret
    exact ⟨rfl, HB.out⟩
  | cons t X =>
    have hXl := cont_len h.fit
    have HF := Lib.hid (find_any h (by simp) (by omega) k)
    have H := Lib.hid h
    have H0 := Lib.hid h0
    clear h h0
    go_enter Try.func12, Try.ntmps12
    go_upto_region 2 with (go_at_call 24; refine HF.out.mono ?_; rintro e w1 ⟨pg, i, ok, rfl, hR, hb1⟩; have HR := Lib.hid hR; have HB := Lib.hid hb1; clear hR hb1)
    obtain ⟨t, ht, hi, hA, hC, hno, hyes⟩ := find_split H.out.fit HR.out
    obtain rfl : ok = false := by
      cases ok with
      | false => rfl
      | true => exact absurd (hyes rfl).1 H0.out
    clear ht hi hA hC hno hyes
    go_wp2_with fail
    go_ret
    exact ⟨rfl, HB.out⟩
/-- What is known where an item has been taken out of its page. -/
structure Out (w : World) (B p : Nat) (F : Nat → Prop) (v : Value) (X : List Pg) (k : Int) (pg i : Nat) (t t' : Pg) (w1 w2 : World) : Prop where
  at_ : IdxAt w1 B F p v X
  ht : X[pg]? = some t
  eg : t'.g = t.g
  ec : t'.cap = t.cap
  eP : t'.P = t.P.take i ++ t.P.drop (i + 1)
  len : t'.P.length + 1 = t.P.length
  P : PgAt w2 t'
  row : RowAt w2 B p (cont X).length v X
  turned : Turned F w1 w2
  rest : ∀ s ∈ X, s.g ≠ t.g → PgAt w2 s
  eq : cont (X.take pg) ++ t'.P ++ cont (X.drop (pg + 1)) = delL (cont X) k
  up : Sorted (delL (cont X) k)
  count : (delL (cont X) k).length + 1 = (cont X).length
theorem Out.cells {w : World} {B p : Nat} {F : Nat → Prop} {g cap : Nat} {X : List Pg} {k : Int} {pg i : Nat} {t t' : Pg} {w1 w2 : World} (h : Out w B p F (.slice (some ⟨g, 0, none⟩) X.length cap) X k pg i t t' w1 w2) (h0 : 0 < X.length) : w2.cell? ⟨p, 0, none⟩ = some (.slice (some ⟨g, 0, none⟩) X.length cap) ∧ ∀ (j : Nat) (s : Pg), X[j]? = some s → w2.cell? ⟨g, j, none⟩ = some (pv s) := by
  refine ⟨by simp [World.cell?, h.row.1], fun j s hs => ?_⟩
  obtain ⟨ao, c, e, _, _, hc⟩ := Pq.own_slice h.row.2.1
  obtain ⟨g', rfl, hc2⟩ := hc h0
  simp only [Value.slice.injEq, Option.some.injEq, Addr.mk.injEq, and_true, true_and] at e
  obtain ⟨rfl, rfl⟩ := e
  exact hc2 j _ (Pq.fq_at hs)
theorem out_mk {w w1 w2 : World} {B p : Nat} {F : Nat → Prop} {v : Value} {X : List Pg} {k : Int} {pg i : Nat} (h1 : IdxAt w1 B F p v X) (hR : FindR X k pg i true) (t : Pg) (ht : X[pg]? = some t) (hd : PgAt w2 ⟨t.g, t.cap, t.P.take i ++ t.P.drop (i + 1)⟩) (hg : w1.grownBy w2 (some t.g)) :
    Out w B p F v X k pg i t ⟨t.g, t.cap, t.P.take i ++ t.P.drop (i + 1)⟩ w1 w2 := by
  obtain ⟨s, hs, hi, hA, hC, _, hyes⟩ := find_split h1.fit hR
  obtain rfl : s = t := by rw [ht] at hs; injection hs with hs; exact hs.symm
  obtain ⟨_, u0, hil, hiu, hdr, hgt⟩ := hyes rfl
  obtain ⟨f1, f2, f3⟩ := h1.fixed (List.mem_of_getElem? ht) hg
  have e9 : cont (X.take pg) ++ (s.P.take i ++ s.P.drop (i + 1)) ++ cont (X.drop (pg + 1)) = delL (cont X) k := by
    rw [hC, hdr]
    have := del_split (A := cont (X.take pg) ++ s.P.take i) (D := [(k, u0)]) (C := s.P.drop (i + 1) ++ cont (X.drop (pg + 1))) (k := k) hA (by simp) hgt
    simp only [List.append_assoc, List.cons_append, List.nil_append] at this ⊢
    rw [this]
  refine ⟨h1, ht, rfl, rfl, rfl, by simp; omega, hd, f1, f2, f3, e9, h1.fit.up.filter _, ?_⟩
  rw [← e9]
  conv => rhs; rw [hC, hdr]
  simp only [List.length_append, List.length_cons]
  omega
/-- What lay leaves, behind the item's going: the pages from fr to tu are the page t4. -/
theorem out_fin {w w1 w2 wm w4 : World} {B p : Nat} {F : Nat → Prop} {v : Value} {X : List Pg} {k : Int} {pg i : Nat} {t t' t4 : Pg} {fr tu : Nat} {e : Ending} {n' : Int} (h : Out w B p F v X k pg i t t' w1 w2) (hb : Below w2.heap.size w2 wm) (hP : PgAt wm t4)
    (hft : fr ≤ pg) (hpt : pg < tu) (htu : tu ≤ X.length) (hg : t4.g = t.g ∨ w1.heap.size ≤ t4.g) (hl : LayR wm B p (cont X).length v X fr tu t4 e w4) (h9 : t4.P.length ≤ 9) (h2 : 2 ≤ t4.P.length ∨ X.length = 1)
    (hc : cont (X.take fr) ++ t4.P ++ cont (X.drop tu) = delL (cont X) k) (hn : n' = (cont X).length - 1) :
    Did w1 B F p (delL (cont X) k) (w4.setCell ⟨p, 1, none⟩ (.int .i64 n')) := by
  obtain ⟨r1, r2⟩ := rest_nodup h.at_.one (fr := fr) (tu := tu) (by omega)
  have hmem : ∀ s ∈ X.take fr ++ X.drop tu, s ∈ X := fun s hs => by
    rcases List.mem_append.1 hs with h | h
    · exact List.mem_of_mem_take h
    · exact List.mem_of_mem_drop h
  have hne : ∀ s ∈ X.take fr ++ X.drop tu, s.g ≠ t.g := fun s hs => r2 s hs pg t hft hpt h.ht
  rw [← hc]
  refine fin_any (fr := fr) (tu := tu) (t := t4) h.at_ (h.row.below hb) (h.turned.trans (below_any (G := F) hb) (fun j hj => .inl hj)) (fun s hs => ?_) hP r1 (fun s hs => ?_) (hg.imp (fun e => by rw [e]; exact (h.at_.pgs t (List.mem_of_getElem? h.ht)).2) id) hl (fun he => ?_) h9 ?_ (by rw [hc]; exact h.up) (by rw [hc, hn]; have := h.count; omega)
  · have := h.rest s (hmem s hs) (hne s hs)
    exact this.on (hb.block _ this.lt)
  · rcases hg with e | e
    · rw [e]; exact hne s hs
    · have := (h.at_.pgs s (hmem s hs)).1.lt; omega
  · rcases Nat.lt_or_ge 1 X.length with h3 | h3
    · exact h3
    · exact absurd (List.eq_nil_of_length_eq_zero (by simp; omega)) he
  · refine h2.imp id (fun e1 => List.eq_nil_of_length_eq_zero (by simp; omega))
set_option maxRecDepth 100000 in
set_option maxHeartbeats 2000000 in
theorem del_ok {w : World} {B p : Nat} {F : Nat → Prop} {v : Value} {X : List Pg} (h : IdxAt w B F p v X) (k : Int) (hn : (cont X).length ≤ 4096) (h0 : hasL (cont X) k) :
    Calls Try.prog 12 #[.pointer (some ⟨p, 0, none⟩), .int .u64 k] w (PutE w B F p (delL (cont X) k)) := by
  have hX0 : 0 < X.length := by
    obtain ⟨e, he, _⟩ := h0
    cases X with
    | nil => simp [cont] at he
    | cons => simp
  have hXl := cont_len h.fit
  have HF := Lib.hid (find_any h hX0 (by omega) k)
  have H := Lib.hid h
  have H0 := Lib.hid h0
  obtain ⟨ao, cap, ev, _, hcell⟩ := h.slice
  obtain ⟨g, rfl, _⟩ := hcell hX0
  subst ev
  clear h h0 hcell
  go_enter Try.func12, Try.ntmps12
  go_upto_region 2 with (go_at_call 24; refine HF.out.mono ?_; rintro e w1 ⟨pg, i, ok, rfl, hR, hb1⟩; have HR := Lib.hid hR; have HB := Lib.hid hb1; clear hR hb1)
  obtain ⟨t, ht, hi, hA, hC, hno, hyes⟩ := find_split H.out.fit HR.out
  obtain rfl : ok = true := by
    cases ok with
    | true => rfl
    | false => exact absurd H0.out (hno rfl).2
  obtain ⟨_, u0, hil, hiu, hd, hgt⟩ := hyes rfl
  have h1 := H.out.below HB.out
  have c0 := h1.cells.1
  have c1 : w1.cell? ⟨g, pg, none⟩ = some (pv t) := by
    obtain ⟨_, _, e, _, hc⟩ := h1.slice
    obtain ⟨_, e2, hc⟩ := hc hX0
    simp only [Value.slice.injEq] at e
    obtain ⟨rfl, _, _⟩ := e
    simp only [Option.some.injEq, Addr.mk.injEq, and_true] at e2
    subst e2
    exact hc pg t ht
  have hpl0 := (List.getElem?_eq_some_iff.1 ht).1
  have hpl : (pg : Int) < (X.length : Int) := by omega
  have htm := List.mem_of_getElem? ht
  have ht8 := h1.fit.one t htm
  obtain ⟨j, hj⟩ : ∃ j : Nat, j = i + 1 := ⟨_, rfl⟩
  have ij : (i : Int) + 1 = (j : Int) := by omega
  have i8 : i < 8 := by omega
  have pg9 : pg < 4096 := by omega
  obtain ⟨pu, epu⟩ : ∃ pu : Nat, pu = pg + 1 := ⟨_, rfl⟩
  have ipu : (pg : Int) + 1 = (pu : Int) := by omega
  have HD := Lib.hid (delete_any t i j hj w1 (h1.pgs t htm).1 hil (by omega))
  have H1 := Lib.hid (And.intro h1 (And.intro ht (And.intro ht8 (And.intro epu hil))))
  unfold pv at c1 HD
  clear ht hi hA hC hno hyes hiu hd hgt h1 htm ht8 hj epu hil
  go_wp2_with fail
  (with_reducible refine HD.out.mono ?_)
  rintro e w2 ⟨rfl, hdp, hdg⟩
  have hO := out_mk (w := w) H1.out.1 HR.out t H1.out.2.1 hdp hdg
  have HO := Lib.hid hO
  clear hdp hdg hO
  obtain ⟨t', et⟩ : ∃ t' : Pg, t' = ⟨t.g, t.cap, t.P.take i ++ t.P.drop (i + 1)⟩ := ⟨_, rfl⟩
  rw [← et] at HO ⊢
  have HT := Lib.hid et
  clear et
  obtain ⟨h1, ht, ht8, epu, hil⟩ := H1.out
  have hO := HO.out
  have c2 := (hO.cells hX0).1
  have hl' := hO.len
  have c3 := (hO.cells hX0).2
  unfold pv
  have hsz := hO.turned.size
  have fin : ∀ w5, Did w1 B F p (delL (cont X) k) w5 → PutE w B F p (delL (cont X) k) (.returned (.int .i64 0)) w5 := fun w5 hd => ⟨rfl, hd.ahead HB.out⟩
  have FIN := Lib.hid fin
  have hx : X.length ≤ 99990 := by omega
  have t9 : t'.P.length ≤ 8 := by omega
  by_cases hA : 2 ≤ t'.P.length ∨ X.length = 1
  · have HL := Lib.hid (lay_any B p _ _ X pg pu t' w2 hO.row (by omega) (by omega) hx hO.P (by omega))
    have HA := Lib.hid hA
    have T9 := Lib.hid t9
    unfold pv at HL
    have HE := Lib.hid (show t'.g = t.g ∧ pu = pg + 1 ∧ pg < X.length from ⟨hO.eg, epu, hpl0⟩)
    by_cases h2 : 2 ≤ t'.P.length
    · have i2 : (2 : Int) ≤ (t'.P.length : Int) := by omega
      clear h1 ht ht8 epu hil hO hl' hA t9 hsz fin c3 h2
      go_wp2_with fail
      (with_reducible refine HL.out.mono ?_)
      rintro e w4 hl
      obtain ⟨rfl, wa, ys, v', hba, hy, hR, hTu, hv'⟩ := id hl
      have d1 : w4.cell? ⟨p, 1, none⟩ = some (.int .i64 (cont X).length) := by simp [World.cell?, hR.1]
      have f1 := free1 (i := 1) hR.1
      have H2 := Lib.hid hl
      clear hba hy hR hTu hv' hl
      go_wp2_with fail
      go_ret
      exact FIN.out _ (out_fin (fr := pg) (tu := pu) (t4 := t') HO.out (Below.refl _ _) HO.out.P (Nat.le_refl _) (by have := HE.out; omega) (by have := HE.out; omega) (.inl HE.out.1) H2.out (by have := T9.out; omega) HA.out (by rw [HE.out.2.1]; exact HO.out.eq) rfl)
    · have i2 : ¬ (2 : Int) ≤ (t'.P.length : Int) := by omega
      have x1 : ((X.length : Int) == 1) = true := by have := hA.resolve_left h2; simp; omega
      clear h1 ht ht8 epu hil hO hl' hA t9 hsz fin c3 h2
      go_wp2_with fail
      (with_reducible refine HL.out.mono ?_)
      rintro e w4 hl
      obtain ⟨rfl, wa, ys, v', hba, hy, hR, hTu, hv'⟩ := id hl
      have d1 : w4.cell? ⟨p, 1, none⟩ = some (.int .i64 (cont X).length) := by simp [World.cell?, hR.1]
      have f1 := free1 (i := 1) hR.1
      have H2 := Lib.hid hl
      clear hba hy hR hTu hv' hl
      go_wp2_with fail
      go_ret
      exact FIN.out _ (out_fin (fr := pg) (tu := pu) (t4 := t') HO.out (Below.refl _ _) HO.out.P (Nat.le_refl _) (by have := HE.out; omega) (by have := HE.out; omega) (.inl HE.out.1) H2.out (by have := T9.out; omega) HA.out (by rw [HE.out.2.1]; exact HO.out.eq) rfl)
  · by_cases hpg : 0 < pg
    · have xl : ¬ t'.P.length ≥ 2 ∧ X.length ≠ 1 := ⟨fun h => hA (.inl h), fun h => hA (.inr h)⟩
      have i2 : ¬ (2 : Int) ≤ (t'.P.length : Int) := by omega
      have x1 : ((X.length : Int) == 1) = false := beq_eq_false_iff_ne.2 (by omega)
      have l1 : t'.P.length = 1 := by have := h1.fit.two (by omega) t (List.mem_of_getElem? ht); omega
      obtain ⟨pm, epm⟩ : ∃ pm : Nat, pg = pm + 1 := ⟨pg - 1, by omega⟩
      have ipm : (pg : Int) - 1 = (pm : Int) := by omega
      have ip0 : (0 : Int) < (pg : Int) := by omega
      have pml : (pm : Int) < (X.length : Int) := by omega
      have hs := getD_at X pm default (by omega)
      obtain ⟨s, es⟩ : ∃ s, s = X.getD pm default := ⟨_, rfl⟩
      rw [← es] at hs
      have hsg : s.g ≠ t.g := fun e => by
        have := (List.pairwise_iff_getElem.1 (List.nodup_iff_pairwise_ne.1 h1.one)) pm pg (by simp; omega) (by simp; omega) (by omega)
        obtain ⟨h5, e5⟩ := List.getElem?_eq_some_iff.1 hs
        obtain ⟨h6, e6⟩ := List.getElem?_eq_some_iff.1 ht
        simp only [List.getElem_map, e5, e6] at this
        exact this e
      clear es
      have hs2 := h1.fit.two (by omega) s (List.mem_of_getElem? hs)
      have hs8 := h1.fit.one s (List.mem_of_getElem? hs)
      have c4 := c3 _ _ hs
      have hbq := (Below.refl w2.heap.size w2).alloc (Nat.le_refl _) (.cells #[pv s, pv t'] 52)
      have hsP := hO.rest s (List.mem_of_getElem? hs) hsg
      have q1 : PgAt (w2.alloc (.cells #[pv s, pv t'] 52)) s := hsP.on (hbq.block _ hsP.lt)
      have q2 : PgAt (w2.alloc (.cells #[pv s, pv t'] 52)) t' := hO.P.on (hbq.block _ hO.P.lt)
      have HC := Lib.hid (concat_any [s, t'] w2.heap.size 2 _ (heap_alloc_new w2 _) (by simp only [List.mem_cons, List.not_mem_nil, or_false]; rintro x (rfl | rfl); (exact ⟨q1, by omega⟩); (exact ⟨q2, by omega⟩)) (by simp [cont]; omega) (by simp [cont]; omega) (by simp))
      have HBQ := Lib.hid hbq
      have HS := Lib.hid (And.intro l1 (And.intro hs2 hs8))
      have HE := Lib.hid (show pg = pm + 1 ∧ pu = pg + 1 ∧ pg < X.length from ⟨epm, epu, hpl0⟩)
      have HX := Lib.hid (And.intro hs (And.intro ht (And.intro epu hx)))
      unfold pv at c4 HC
      clear h1 ht ht8 epu hil hO hl' hA t9 fin c3 xl l1 hs hs2 hs8 hsg hbq hsP q1 q2 hx epm
      go_wp2_with fail
      refine HC.out.mono ?_
      rintro e w3 ⟨t4, rfl, p4, q4, g4, b4⟩
      have hb3 : Below w2.heap.size w2 w3 := HBQ.out.trans (b4.mono HBQ.out.size)
      have hl4 : t4.P.length = s.P.length + 1 := by rw [p4]; simp only [cont, List.flatMap_cons, List.flatMap_nil, List.length_append, List.length_nil]; have := HS.out; omega
      have HL := Lib.hid (lay_any B p _ _ X pm pu t4 w3 (HO.out.row.below hb3) (by have := HE.out; omega) (by have := HE.out; omega) HX.out.2.2.2 q4 (by have := HS.out; omega))
      have H4 := Lib.hid (And.intro p4 (And.intro q4 (And.intro hb3 (And.intro hl4 (show w1.heap.size ≤ t4.g from Nat.le_trans hsz (Nat.le_trans HBQ.out.size g4))))))
      unfold pv at HL ⊢
      clear p4 q4 g4 b4 hb3 hl4
      go_wp2_with fail
      (with_reducible refine HL.out.mono ?_)
      rintro e w4 hl
      obtain ⟨rfl, wa, ys, v', hba, hy, hR, hTu, hv'⟩ := id hl
      have d1 : w4.cell? ⟨p, 1, none⟩ = some (.int .i64 (cont X).length) := by simp [World.cell?, hR.1]
      have f1 := free1 (i := 1) hR.1
      have H2 := Lib.hid hl
      clear hba hy hR hTu hv' hl
      go_wp2_with fail
      go_ret
      obtain ⟨p4, q4, hb3, hl4, g4⟩ := H4.out
      obtain ⟨hs, ht, epu, hx⟩ := HX.out
      obtain ⟨l1, hs2, hs8⟩ := HS.out
      refine FIN.out _ (out_fin (fr := pm) (tu := pu) (t4 := t4) HO.out hb3 q4 (by have := HE.out; omega) (by have := HE.out; omega) (by have := HE.out; omega) (.inr g4) H2.out (by omega) (.inl (by omega)) ?_ rfl)
      have := HO.out.eq
      rw [p4, epu, HE.out.1, ← this, HE.out.1, cont_next hs]
      simp [cont]
    · have xl : ¬ t'.P.length ≥ 2 ∧ X.length ≠ 1 := ⟨fun h => hA (.inl h), fun h => hA (.inr h)⟩
      have i2 : ¬ (2 : Int) ≤ (t'.P.length : Int) := by omega
      have x1 : ((X.length : Int) == 1) = false := beq_eq_false_iff_ne.2 (by omega)
      have l1 : t'.P.length = 1 := by have := h1.fit.two (by omega) t (List.mem_of_getElem? ht); omega
      obtain rfl : pg = 0 := by omega
      have hs := getD_at X 1 default (by omega)
      obtain ⟨s, es⟩ : ∃ s, s = X.getD 1 default := ⟨_, rfl⟩
      rw [← es] at hs
      have x1l : (1 : Int) < (X.length : Int) := by omega
      have hsg : s.g ≠ t.g := fun e => by
        have := (List.pairwise_iff_getElem.1 (List.nodup_iff_pairwise_ne.1 h1.one)) 0 1 (by simp; omega) (by simp; omega) (by omega)
        obtain ⟨h5, e5⟩ := List.getElem?_eq_some_iff.1 hs
        obtain ⟨h6, e6⟩ := List.getElem?_eq_some_iff.1 ht
        simp only [List.getElem_map, e5, e6] at this
        exact this e.symm
      clear es
      have hs2 := h1.fit.two (by omega) s (List.mem_of_getElem? hs)
      have hs8 := h1.fit.one s (List.mem_of_getElem? hs)
      have c4 := c3 _ _ hs
      have hbq := (Below.refl w2.heap.size w2).alloc (Nat.le_refl _) (.cells #[pv t', pv s] 52)
      have hsP := hO.rest s (List.mem_of_getElem? hs) hsg
      have q1 : PgAt (w2.alloc (.cells #[pv t', pv s] 52)) s := hsP.on (hbq.block _ hsP.lt)
      have q2 : PgAt (w2.alloc (.cells #[pv t', pv s] 52)) t' := hO.P.on (hbq.block _ hO.P.lt)
      have HC := Lib.hid (concat_any [t', s] w2.heap.size 2 _ (heap_alloc_new w2 _) (by simp only [List.mem_cons, List.not_mem_nil, or_false]; rintro x (rfl | rfl); (exact ⟨q2, by omega⟩); (exact ⟨q1, by omega⟩)) (by simp [cont]; omega) (by simp [cont]; omega) (by simp))
      have HBQ := Lib.hid hbq
      have HS := Lib.hid (And.intro l1 (And.intro hs2 hs8))
      have HE := Lib.hid (show 1 < X.length from by omega)
      have HX := Lib.hid (And.intro hs (And.intro ht (And.intro epu hx)))
      unfold pv at c4 HC
      clear h1 ht ht8 epu hil hO hl' hA t9 fin c3 xl l1 hs hs2 hs8 hsg hbq hsP q1 q2 hx
      go_wp2_with fail
      refine HC.out.mono ?_
      rintro e w3 ⟨t4, rfl, p4, q4, g4, b4⟩
      have hb3 : Below w2.heap.size w2 w3 := HBQ.out.trans (b4.mono HBQ.out.size)
      have hl4 : t4.P.length = s.P.length + 1 := by rw [p4]; simp only [cont, List.flatMap_cons, List.flatMap_nil, List.length_append, List.length_nil]; have := HS.out; omega
      have HL := Lib.hid (lay_any B p _ _ X 0 2 t4 w3 (HO.out.row.below hb3) (by have := HE.out; omega) (by have := HE.out; omega) HX.out.2.2.2 q4 (by have := HS.out; omega))
      have H4 := Lib.hid (And.intro p4 (And.intro q4 (And.intro hb3 (And.intro hl4 (show w1.heap.size ≤ t4.g from Nat.le_trans hsz (Nat.le_trans HBQ.out.size g4))))))
      unfold pv at HL ⊢
      clear p4 q4 g4 b4 hb3 hl4
      go_wp2_with fail
      refine HL.out.mono ?_
      rintro e w4 hl
      obtain ⟨rfl, wa, ys, v', hba, hy, hR, hTu, hv'⟩ := id hl
      have d1 : w4.cell? ⟨p, 1, none⟩ = some (.int .i64 (cont X).length) := by simp [World.cell?, hR.1]
      have f1 := free1 (i := 1) hR.1
      have H2 := Lib.hid hl
      clear hba hy hR hTu hv' hl
      go_wp2_with fail
      go_ret
      obtain ⟨p4, q4, hb3, hl4, g4⟩ := H4.out
      obtain ⟨hs, ht, epu, hx⟩ := HX.out
      obtain ⟨l1, hs2, hs8⟩ := HS.out
      refine FIN.out _ (out_fin (fr := 0) (tu := 2) (t4 := t4) HO.out hb3 q4 (by have := HE.out; omega) (by have := HE.out; omega) (by have := HE.out; omega) (.inr g4) H2.out (by omega) (.inl (by omega)) ?_ rfl)
      have := HO.out.eq
      have h7 := split_at (show (X.drop 1)[0]? = some s by rw [List.getElem?_drop]; exact hs)
      simp only [List.take_zero, List.nil_append, List.drop_drop] at h7
      rw [p4, ← this]
      simp only [Nat.zero_add, List.take_zero] at this ⊢
      rw [h7]
      simp [cont]
end Go.Proofs.Ythjcohaldjfniaa.Ix
