/- span: around, Has, Free, Count, Spans, walked. -/
import Derived.Test.YtgbhdccadelcfaaS9
namespace Go.Proofs.Ytgbhdccadelcfaa.Sp
open Go Go.RowKit
def ArR (L : SL) (n : Int) (e : Ending) : Prop :=
  (∃ t ∈ L, t.1 ≤ n ∧ n ≤ t.2 ∧ e = .returned (.tuple #[.agg #[.int .u32 t.1, .int .u32 t.2], .bool true])) ∨ (¬ mem L n ∧ e = .returned (.tuple #[.agg #[.int .u32 0, .int .u32 0], .bool false]))
theorem out_end {L : SL} (hc : Canon L) (n : Int) (i : Nat) (hi : i ≤ L.length) (i1 : i = 0 ∨ (L.getD (i - 1) (0, 0)).2 < n) (h : ∀ t ∈ L.drop i, n < t.1) : ¬ mem L n := by
  rintro ⟨t, ht, h1, h2⟩
  have e := List.take_append_drop i L
  rw [← e, List.mem_append] at ht
  rcases ht with ht | ht
  · have := ends_take hc i n hi i1 t ht
    omega
  · have := h t ht
    omega
theorem out_ahead {L : SL} (hc : Canon L) (n : Int) (i : Nat) (hi : i < L.length) (h : n < (L[i]).1) : ∀ t ∈ L.drop i, n < t.1 := by
  intro t ht
  rw [List.drop_eq_getElem_cons hi, List.mem_cons] at ht
  rcases ht with rfl | ht
  · exact h
  · have := canon_cut hc (i + 1) L[i] (by rw [List.take_succ_eq_append_getElem hi]; exact List.mem_append_right _ (List.mem_singleton.2 rfl)) t ht
    have := hc.2 L[i] (List.getElem_mem hi)
    omega
theorem size46' : (Try.prog.info? 46).map (·.size) = some 2 := by
  obtain ⟨i, h1, _, h2, _⟩ := info_parts info46
  rw [h1]; simp [h2]
theorem res_cell_tmp {fn : Func} {p q : Tmp} (h : fn.results = #[.cell p 46, .tmp q]) (tmps : Array Value) (w : World) (g : Nat) (cs : Array Value) (z : Value) (hp : tmps.getD p undef = .pointer (some ⟨g, 0, none⟩)) (hq : tmps.getD q undef = z) (hg : w.heap[g]? = some (.cells cs 46 (0, 0))) (hs : cs.size = 2) :
    (results fn tmps).run Try.prog w = .ok (.tuple #[.agg cs, z]) w := by
  have hp' : tmps[p]?.getD undef = .pointer (some ⟨g, 0, none⟩) := by simpa using hp
  have hq' : tmps[q]?.getD undef = z := by simpa using hq
  simp [results, h, hp', hq', asAddr, run_loadVar_row w g 46 46 cs (0, 0) _ hg Try.underlying46 rfl (by rw [size46', hs])]
theorem set2 {w : World} {z : Nat} {a b x y : Value} (h : w.heap[z]? = some (.cells #[a, b] 46 (0, 0))) : ((w.setCell ⟨z, 0, none⟩ x).setCell ⟨z, 1, none⟩ y).heap[z]? = some (.cells #[x, y] 46 (0, 0)) := by
  rw [set_block (set_block h)]; rfl
theorem set2_below {w wr : World} (h : Below w.heap.size w wr) {z : Nat} (hz : w.heap.size ≤ z) (x y : Value) : Below w.heap.size w ((wr.setCell ⟨z, 0, none⟩ x).setCell ⟨z, 1, none⟩ y) := by
  have g1 := grown_set wr z 0 x
  have g2 := grown_set (wr.setCell ⟨z, 0, none⟩ x) z 1 y
  have g := g1.trans g2
  exact ⟨g.os.trans h.os, g.tape.trans h.tape, g.output.trans h.output, Nat.le_trans h.size g.size, fun j hj => (g.block j (by have := h.size; omega) (fun e => by injection e with e; omega)).trans (h.block j hj)⟩
set_option maxRecDepth 100000 in
set_option maxHeartbeats 1000000 in
theorem around_any (B p : Nat) (F : Nat → Prop) (v : Value) (L : SL) (n : Int) (w : World) (h : SpanAt w B F p v L) (hL : L.length ≤ 1000) :
    Calls Try.prog 33 #[.pointer (some ⟨p, 0, none⟩), .int .u32 n] w fun e w' => ArR L n e ∧ Below w.heap.size w w' := by
  have H := Lib.hid h
  have c0 := cell1 h.at_.1
  clear h
  have hb0 : Below w.heap.size w (w.alloc (.cells #[.int .u32 0, .int .u32 0] 46)) := (Below.refl _ _).alloc (Nat.le_refl _) _
  have HB0 := Lib.hid hb0
  have HZ := Lib.hid (heap_alloc_new w (.cells #[.int .u32 0, .int .u32 0] 46))
  clear hb0
  go_enter Try.func33, Try.ntmps33
  go_upto_region 4 with (go_at_call 26; refine (end_any B p v L n _ (H.out.below HB0.out).at_ (by omega)).mono ?_; rintro e w1 ⟨i, rfl, hi, i1, i2, hb1⟩; have HI := Lib.hid (And.intro i1 (And.intro i2 (And.intro hb1 (HB0.out.trans (hb1.mono HB0.out.size))))); clear i1 i2 hb1)
  obtain ⟨zz, hzz⟩ : ∃ zz, zz = w.heap.size := ⟨_, rfl⟩
  have hz : w1.heap[zz]? = some (.cells #[.int .u32 0, .int .u32 0] 46 (0, 0)) := by
    rw [hzz]
    exact (HI.out.2.2.1.block _ (by simp)).trans HZ.out
  obtain ⟨z0, z1⟩ := near_cells3 hz
  have zf0 := free1 (i := 0) hz
  have zf1 := free1 (i := 1) hz
  have h1 := H.out.below HI.out.2.2.2
  have c1 := cell1 h1.at_.1
  obtain ⟨ao, cap, ev, hnc, hno, hcells⟩ := own_slice h1.at_.2
  have HO := Lib.hid h1.at_.2
  have HHZ := Lib.hid (And.intro hz hzz)
  rw [← hzz]
  by_cases hlt : i < L.length
  · obtain ⟨g, rfl, _⟩ := hcells (by omega)
    subst ev
    obtain ⟨t, ht⟩ : ∃ t, L[i]? = some t := ⟨_, List.getElem?_eq_getElem hlt⟩
    obtain ⟨d1, d2⟩ := row_at HO.out ht
    have hE : n ≤ t.2 := by
      rcases HI.out.2.1 with h | h
      · omega
      · simpa [ht] using h
    have hT := Lib.hid (And.intro ht hE)
    have in0 : ((i : Int) == (L.length : Int)) = false := by simp; omega
    clear ht h1 hno hcells hz c0 hzz hE
    by_cases hn : n < t.1
    · have fin : ¬ mem L n := out_end H.out.can n i hi HI.out.1 (out_ahead H.out.can n i hlt (by
        have := (List.getElem?_eq_some_iff.1 hT.out.1).2
        rw [this]; exact hn))
      have Fin := Lib.hid fin
      clear fin
      go_wp2_with fail
      refine bodyPost_ret (res_cell_tmp rfl _ _ zz _ (.bool false) rfl rfl (set2 HHZ.out.1) rfl) rfl ⟨.inr ⟨Fin.out, rfl⟩, set2_below HI.out.2.2.2 (by rw [HHZ.out.2]; exact Nat.le_refl _) _ _⟩
    · go_wp2_with fail
      refine bodyPost_ret (res_cell_tmp rfl _ _ zz _ (.bool true) rfl rfl (set2 HHZ.out.1) rfl) rfl ⟨.inl ⟨t, List.mem_of_getElem? hT.out.1, by omega, hT.out.2, rfl⟩, set2_below HI.out.2.2.2 (by rw [HHZ.out.2]; exact Nat.le_refl _) _ _⟩
  · obtain rfl : i = L.length := by omega
    have fin : ¬ mem L n := out_end H.out.can n L.length hi HI.out.1 (fun t ht => by simp at ht)
    have Fin := Lib.hid fin
    subst ev
    clear h1 hno hcells hz c0 hzz fin
    go_wp2_with fail
    refine bodyPost_ret (res_cell_tmp rfl _ _ zz _ (.bool false) rfl rfl (set2 HHZ.out.1) rfl) rfl ⟨.inr ⟨Fin.out, rfl⟩, set2_below HI.out.2.2.2 (by rw [HHZ.out.2]; exact Nat.le_refl _) _ _⟩
theorem mem_of {L : SL} {t : Int × Int} {n : Int} (h : t ∈ L) (h1 : t.1 ≤ n) (h2 : n ≤ t.2) : mem L n := ⟨t, h, h1, h2⟩
def hasB (L : SL) (n : Int) : Bool := L.any fun t => decide (t.1 ≤ n) && decide (n ≤ t.2)
theorem hasB_iff (L : SL) (n : Int) : hasB L n = true ↔ mem L n := by simp [hasB, mem]
set_option maxHeartbeats 1000000 in
theorem has_any (B p : Nat) (F : Nat → Prop) (v : Value) (L : SL) (n : Int) (w : World) (h : SpanAt w B F p v L) (hL : L.length ≤ 1000) :
    Calls Try.prog 21 #[.pointer (some ⟨p, 0, none⟩), .int .u32 n] w fun e w' => e = .returned (.bool (hasB L n)) ∧ Below w.heap.size w w' := by
  have HA := Lib.hid (around_any B p F v L n w h hL)
  clear h
  go_enter Try.func21, Try.ntmps21
  go_wp2_with fail
  refine HA.out.mono ?_
  rintro e w1 ⟨⟨t, ht, h1, h2, rfl⟩ | ⟨hno, rfl⟩, hb⟩
  · have HB := Lib.hid (And.intro hb ((hasB_iff L n).2 (mem_of ht h1 h2)))
    clear hb ht
    go_wp2_with fail
    go_ret
    exact ⟨by rw [HB.out.2]; rfl, HB.out.1.alloc HB.out.1.size _⟩
  · have HB := Lib.hid (And.intro hb (Bool.eq_false_iff.2 (fun h => hno ((hasB_iff L n).1 h))))
    clear hb hno
    go_wp2_with fail
    go_ret
    exact ⟨by rw [HB.out.2]; rfl, HB.out.1.alloc HB.out.1.size _⟩
def FreeR (L : SL) (n : Int) (e : Ending) : Prop :=
  (∃ t ∈ L, t.1 ≤ n ∧ n ≤ t.2 ∧ e = .returned (.tuple #[.int .u32 (if t.2 = 4294967295 then 0 else t.2 + 1), .bool (decide (t.2 ≠ 4294967295))])) ∨ (¬ mem L n ∧ e = .returned (.tuple #[.int .u32 n, .bool true]))
set_option maxHeartbeats 1000000 in
theorem free_any (B p : Nat) (F : Nat → Prop) (v : Value) (L : SL) (n : Int) (w : World) (h : SpanAt w B F p v L) (hL : L.length ≤ 1000) :
    Calls Try.prog 19 #[.pointer (some ⟨p, 0, none⟩), .int .u32 n] w fun e w' => FreeR L n e ∧ Below w.heap.size w w' := by
  have HA := Lib.hid (around_any B p F v L n w h hL)
  have HC := Lib.hid h.can
  clear h
  go_enter Try.func19, Try.ntmps19
  go_wp2_with fail
  refine HA.out.mono ?_
  rintro e w1 ⟨⟨t, ht, h1, h2, rfl⟩ | ⟨hno, rfl⟩, hb⟩
  · obtain ⟨u1, u2, u3⟩ := HC.out.2 t ht
    have HB := Lib.hid (And.intro hb (And.intro ht (And.intro h1 h2)))
    clear hb ht h1 h2
    by_cases hm : t.2 = 4294967295
    · have HM := Lib.hid hm
      go_wp2_with fail
      go_ret2
      exact ⟨.inl ⟨t, HB.out.2.1, HB.out.2.2.1, HB.out.2.2.2, by rw [if_pos HM.out, decide_eq_false (by simp [HM.out])]; rfl⟩, HB.out.1.alloc HB.out.1.size _⟩
    · have HM := Lib.hid hm
      have e1 : (t.2 == 4294967295) = false := by simpa using hm
      have e2 : IntKind.u32.wrap (t.2 + 1) = t.2 + 1 := by simp [IntKind.wrap, IntKind.bits, IntKind.signed]; omega
      clear hm
      go_wp2_with fail
      go_ret2
      exact ⟨.inl ⟨t, HB.out.2.1, HB.out.2.2.1, HB.out.2.2.2, by rw [if_neg HM.out, decide_eq_true HM.out]; rfl⟩, HB.out.1.alloc HB.out.1.size _⟩
  · have HB := Lib.hid (And.intro hb hno)
    clear hb hno
    go_wp2_with fail
    go_ret2
    exact ⟨.inr ⟨HB.out.2, rfl⟩, HB.out.1.alloc HB.out.1.size _⟩
/-- How many numbers. -/
def card (L : SL) : Int := (L.map fun t => t.2 - t.1 + 1).sum
theorem card_cons (t : Int × Int) (L : SL) : card (t :: L) = (t.2 - t.1 + 1) + card L := by simp [card]
theorem card_app (L M : SL) : card (L ++ M) = card L + card M := by
  induction L with
  | nil => simp [card]
  | cons t L ih => rw [List.cons_append, card_cons, card_cons, ih]; omega
theorem card_nonneg {L : SL} (h : Canon L) : 0 ≤ card L := by
  induction L with
  | nil => simp [card]
  | cons t L ih =>
    have := ih (canon_drop h 1)
    have := h.2 t List.mem_cons_self
    rw [card_cons]; omega
theorem card_le {L : SL} (h : Canon L) (lo : Int) (hl : ∀ t ∈ L, lo ≤ t.1) (h1 : lo ≤ 4294967296) : card L ≤ 4294967296 - lo := by
  induction L generalizing lo with
  | nil => simp [card]; omega
  | cons t L ih =>
    have h2 := h.2 t List.mem_cons_self
    have h3 := hl t List.mem_cons_self
    have := ih (canon_drop h 1) (t.2 + 1) (fun u hu => by
      have := canon_cut h 1 t (by simp) u (by simpa using hu)
      omega) (by omega)
    rw [card_cons]; omega
theorem card_next (L : SL) (j : Nat) (t : Int × Int) (h : L[j]? = some t) : card (L.take (j + 1)) = card (L.take j) + (t.2 - t.1 + 1) := by
  obtain ⟨hj, e⟩ := List.getElem?_eq_some_iff.1 h
  rw [List.take_succ_eq_append_getElem hj, card_app, e]
  simp [card]
set_option maxRecDepth 100000 in
set_option maxHeartbeats 1000000 in
theorem count_any (B p : Nat) (F : Nat → Prop) (v : Value) (L : SL) (w : World) (h : SpanAt w B F p v L) (hL : L.length ≤ 1000) :
    Calls Try.prog 17 #[.pointer (some ⟨p, 0, none⟩)] w fun e w' => e = .returned (.int .u64 (card L)) ∧ Below w.heap.size w w' := by
  have H := Lib.hid h
  have c0 := cell1 h.at_.1
  obtain ⟨ao, cap, ev, hnc, hno, hcells⟩ := own_slice h.at_.2
  subst ev
  have HCE := Lib.hid hcells
  clear h hno hcells
  go_enter Try.func17, Try.ntmps17
  go_wp2_with fail
  go_loopw [13, 3] (fun u s wr => ∃ j : Nat, j ≤ L.length ∧ u = .int .i64 j ∧ s = .int .u64 (card (L.take j)) ∧ Hid (Below w.heap.size w wr)) (fun u _ _ => L.length - (intOf u).toNat)
  case atStart => exact ⟨0, by omega, rfl, rfl, Lib.hid (Below.refl _ _)⟩
  case round =>
    obtain ⟨j, hj, rfl, rfl, HA⟩ := hrel
    by_cases hlt : j < L.length
    · obtain ⟨g, rfl, _⟩ := HCE.out (by omega)
      obtain ⟨t, ht⟩ : ∃ t, L[j]? = some t := ⟨_, List.getElem?_eq_getElem hlt⟩
      obtain ⟨d1, d2⟩ := row_at (H.out.below HA.out).at_.2 ht
      have hN := card_next L j t ht
      obtain ⟨u1, u2, u3⟩ := H.out.can.2 t (List.mem_of_getElem? ht)
      have hc1 := card_nonneg (canon_take H.out.can j)
      have hc2 := card_le (canon_take H.out.can (j + 1)) 0 (fun t ht => (H.out.can.2 t (List.mem_of_mem_take ht)).1) (by omega)
      have e1 : IntKind.u32.wrap (t.2 - t.1) = t.2 - t.1 := by simp [IntKind.wrap, IntKind.bits, IntKind.signed]; omega
      have e2 : IntKind.u64.wrap (t.2 - t.1) = t.2 - t.1 := by simp [IntKind.wrap, IntKind.bits, IntKind.signed]; omega
      have e3 : IntKind.u64.wrap (t.2 - t.1 + 1) = t.2 - t.1 + 1 := by simp [IntKind.wrap, IntKind.bits, IntKind.signed]; omega
      have e4 : IntKind.u64.wrap (card (L.take j) + (t.2 - t.1 + 1)) = card (L.take (j + 1)) := by rw [← hN]; simp [IntKind.wrap, IntKind.bits, IntKind.signed]; omega
      clear ht hN hc1 hc2
      go_wp2_with fail
      refine ⟨⟨j + 1, by omega, rfl, rfl, Lib.hid (HA.out.alloc HA.out.size _)⟩, by simp [intOf]; omega⟩
    · obtain rfl : j = L.length := by omega
      go_wp2_with fail
      go_ret
      exact ⟨by rw [List.take_length]; rfl, HA.out⟩
theorem count_nil (w : World) : Calls Try.prog 17 #[.pointer none] w fun e w' => e = .returned (.int .u64 0) ∧ w = w' := by
  go_enter Try.func17, Try.ntmps17
  go_wp2
  go_ret
  exact ⟨rfl, rfl⟩
def ListR (w : World) (L : SL) (e : Ending) (w' : World) : Prop := ∃ v', e = .returned v' ∧ w'.ownsRow w.heap.size 46 2 v' L.length (fl L) ∧ Below w.heap.size w w'
set_option maxRecDepth 100000 in
set_option maxHeartbeats 1000000 in
theorem clone_any (B : Nat) (v : Value) (L : SL) (w : World) (h : w.ownsRow B 46 2 v L.length (fl L)) (hL : L.length ≤ 1000) :
    Calls Try.prog 31 #[v] w (ListR w L) := by
  obtain ⟨i0, hi0, hz0, hz1, hz2⟩ := info_parts info46
  rcases h.2 with ⟨rfl, h0⟩ | ⟨g, cap, cur, rfl, h2, h3, h4, h5, h6, h7⟩
  · obtain rfl : L = [] := List.eq_nil_of_length_eq_zero h0
    clear h
    have hnil := fun w => Lib.run_eql_slice_nil (P := Try.prog) w 37 46 none 0 0 0 0 Try.underlying37
    go_enter Try.func31, Try.ntmps31
    go_wp2
    go_ret
    exact ⟨_, rfl, World.ownsRow_nil _ _ _ _, Below.refl _ _⟩
  · have hE : (w.alloc (.cells #[] 46)).ownsRow w.heap.size 46 2 (.slice (some ⟨w.heap.size, 0, none⟩) 0 0) 0 [] :=
      ⟨rfl, .inr ⟨w.heap.size, 0, #[], rfl, Nat.le_refl _, heap_alloc_new w _, Nat.le_refl _, by unfold maxLen; omega, rfl, rfl⟩⟩
    have HE := Lib.hid hE
    have HN := Lib.hid (show ∀ j u, (fl L)[j]? = some u → (w.alloc (.cells #[] 46)).cell? ((⟨g, 0, none⟩ : Addr).add j) = some u from fun j u hu => by
      have := h.cells (g := g) rfl j u hu
      rw [Go.WideShapes.add_plain] at this ⊢
      exact ((World.grownBy_alloc w _ none).cell_far ⟨g, 0 + j, none⟩ (Array.getElem?_eq_some_iff.1 h3).1 (by simp)).trans this)
    have hb := Lib.hid ((Below.refl w.heap.size w).alloc (Nat.le_refl _) (.cells #[] 46))
    clear h hE h3 h5 h7 h6 h2
    have hnil := fun w => Lib.run_eql_slice_nil (P := Try.prog) w 37 46 (some ⟨g, 0, none⟩) L.length cap 0 0 Try.underlying37
    go_enter Try.func31, Try.ntmps31
    go_wp2_with (at_builtin; refine wpList_append_own_at _ rfl (.tmp 5) (.tmp 6) 37 rfl w.heap.size 46 i0 _ 2 8 Try.underlying37 hi0 hz0 hz1 hz2 rfl (by decide) _ 0 [] rfl HE.out ⟨g, 0, none⟩ L.length cap (fl L) rfl (fl_len L) HN.out (fl_one L) (by unfold maxLen; omega) (by omega) hb.out.size ?_; intro v' w3 hown3 hgrow3 _ _; have H3 := Lib.hid (And.intro hown3 (done3 HE.out hgrow3 hb.out)); clear hown3 hgrow3)
    go_ret
    refine ⟨v', rfl, ?_, H3.out.2⟩
    have := H3.out.1
    rw [Nat.zero_add, List.nil_append] at this
    exact this
theorem spans_any (B p : Nat) (F : Nat → Prop) (v : Value) (L : SL) (w : World) (h : SpanAt w B F p v L) (hL : L.length ≤ 1000) :
    Calls Try.prog 13 #[.pointer (some ⟨p, 0, none⟩)] w (ListR w L) := by
  have HC := Lib.hid (clone_any B v L w h.at_.2 hL)
  have c0 := cell1 h.at_.1
  obtain ⟨ao, cap, ev, _⟩ := own_slice h.at_.2
  subst ev
  clear h
  go_enter Try.func13, Try.ntmps13
  go_wp2_with fail
  refine HC.out.mono ?_
  rintro e w1 ⟨v', rfl, h⟩
  have HH := Lib.hid h
  clear h
  go_wp2_with fail
  go_ret
  exact ⟨v', rfl, HH.out⟩
theorem spans_nil (w : World) : Calls Try.prog 13 #[.pointer none] w fun e w' => e = .returned (.slice none 0 0) ∧ w = w' := by
  go_enter Try.func13, Try.ntmps13
  go_wp2
  go_ret
  exact ⟨rfl, rfl⟩
end Go.Proofs.Ytgbhdccadelcfaa.Sp
