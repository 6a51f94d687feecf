/- commit: the program's Doubt, walked. -/
import Derived.Test.YtklalpamcfkngaaD0
namespace Go.Proofs.Ytklalpamcfkngaa.Cm
open Go Go.RowKit Go.Sort Go.Shelf
theorem fm_flat {L : List TK} {j : Nat} (h : j < L.length * 3) : (L.flatMap encK)[j]? = some (flatK encK 3 L.toArray)[j]! := by
  have hi : j / 3 < L.length := by omega
  have e := fm_at len3 (List.getElem?_eq_getElem hi) (show j % 3 < 3 by omega)
  rw [show j / 3 * 3 + j % 3 = j by omega] at e
  rw [e, get_flatK _ _ _ _ (by simpa using h), getElem!_pos L.toArray (j / 3) (by simpa using hi), List.getElem_toArray, List.getElem?_eq_getElem (by rw [len3]; omega), getElem!_pos]
theorem holds_own {w : World} {B g n cap : Nat} {L : List TK} (h : w.ownsRow B 33 3 (.slice (some ⟨g, 0, none⟩) n cap) n (L.flatMap encK)) : n = L.length ∧ HoldsK encK 3 w g 0 L.toArray ∧ g < w.heap.size ∧ B ≤ g := by
  have hl := h.1
  rw [fm_len len3] at hl
  rcases h.2 with ⟨e0, _⟩ | ⟨g', cap', cur, e0, hb, hg, hn, hm, hs, ht⟩
  · cases e0
  · cases e0
    refine ⟨by omega, fun j hj => ?_, (Array.getElem?_eq_some_iff.1 hg).1, hb⟩
    rw [size_flatK] at hj
    have hj' : j < L.length * 3 := by simpa using hj
    refine ⟨?_, by simp [World.frozen?, hg]⟩
    have e1 : (cur.toList.take (n * 3))[j]? = (L.flatMap encK)[j]? := by rw [ht]
    rw [List.getElem?_take, if_pos (by omega), Array.getElem?_toList, fm_flat hj'] at e1
    simp only [World.cell?, hg, Nat.zero_add]
    simpa using e1
theorem own_sorted {w : World} {B g n cap q : Nat} {L ys : List TK} {os : Array Obj} (h : w.ownsRow B 33 3 (.slice (some ⟨g, 0, none⟩) n cap) n (L.flatMap encK)) (hy : ys.length = n) :
    (sortWorldK encK 3 w g 0 q ys.toArray os).ownsRow B 33 3 (.slice (some ⟨g, 0, none⟩) n cap) n (ys.flatMap encK) := by
  have hlt := (holds_own h).2.2.1
  rcases h.2 with ⟨e0, _⟩ | ⟨g', cap', cur, e0, hb, hg, hn, hm, hs, ht⟩
  · cases e0
  · cases e0
    have hx : (sortWorldK encK 3 w g 0 q ys.toArray os).heap[g]? = some (.cells (putCells id 0 (flatK encK 3 ys.toArray) cur) 33 (0, 0)) := by
      unfold sortWorldK
      rw [heap_grow_old _ _ (by simpa [putRowK, putRow, mapBlock, Sort.ahead] using hlt)]
      simp [putRowK, putRow, mapBlock, Sort.ahead, Array.getElem?_modify, hg, onCells]
    refine ⟨by rw [fm_len len3, hy], .inr ⟨g, cap, _, rfl, hb, hx, hn, hm, by simpa [putCells] using hs, ?_⟩⟩
    apply List.ext_getElem?
    intro j
    rw [List.getElem?_take, Array.getElem?_toList]
    by_cases hj : j < n * 3
    · have hjc : j < cur.size := by have := Nat.mul_le_mul_right 3 hn; omega
      rw [if_pos hj, fm_flat (by omega)]
      simp only [putCells, Array.getElem?_mapIdx, Array.getElem?_eq_getElem hjc, Option.map_some]
      rw [if_pos (by rw [size_flatK]; simp; omega)]
      simp
    · rw [if_neg hj, List.getElem?_eq_none (by rw [fm_len len3]; omega)]
theorem sort_any {w : World} {B k cap : Nat} {ao : Option Addr} {L : List TK} (h : w.ownsRow B 33 3 (.slice ao k cap) k (L.flatMap encK)) (hB : B ≤ w.heap.size) (hk : k ≤ 1000000) :
    Calls Try.prog 42 #[.slice ao k cap, .func (.func 43) #[] #[]] w fun e w' => e = .returned (.tuple #[]) ∧ w'.ownsRow B 33 3 (.slice ao k cap) k ((srt L).flatMap encK) ∧ Below B w w' := by
  rcases h.2 with ⟨e0, h0⟩ | ⟨g, cap', cur, e0, hb, hg, _⟩
  · cases e0
    have hL : L = [] := by have := h.1; rw [fm_len len3] at this; exact List.eq_nil_of_length_eq_zero (by omega)
    subst hL
    refine (AnyF.slices_SortFunc_none Try.sortQ none 0 _ w).mono ?_
    rintro e w' ⟨rfl, rfl⟩
    exact ⟨rfl, by simpa [srt] using h, Below.refl _ _⟩
  · cases e0
    obtain ⟨hl, hH, hlt, hBg⟩ := holds_own h
    have hs := sortsK g 0 cap L.toArray w hH hlt (by simp; omega)
    rw [show L.toArray.size = k by simp [hl]] at hs
    refine hs.mono ?_
    rintro e w' ⟨rfl, q, os, rfl⟩
    refine ⟨rfl, own_sorted h (by rw [List.toList_toArray, srt_length]; exact hl.symm), ?_⟩
    unfold sortWorldK
    exact below_grown (Lib.below_putRow (Below.refl B w) hBg) (by simpa [putRowK, putRow, mapBlock, Sort.ahead] using hB) ⟨0, os, rfl⟩
theorem doubt_nil (w : World) : Calls Try.prog 28 #[.pointer none] w fun e w' => e = .returned (.slice none 0 0) ∧ w = w' := by
  go_enter Try.func28, Try.ntmps28
  go_wp2
  go_ret
  exact ⟨rfl, rfl⟩
theorem newsK2 (w : World) (o : Obj) (t : TK) : ∀ j u, (encK t)[j]? = some u → ((w.alloc o).alloc (.cells #[.int .u8 t.1, .int .u32 t.2.1, .int .u32 t.2.2] 33)).cell? ((⟨w.heap.size + 1, 0, none⟩ : Addr).add j) = some u := by
  have h := newsK (w.alloc o) t
  rw [World.size_alloc] at h
  exact h
def selT (T : TK → Option Int) (ss : List TK) : List TK := ss.filter fun x => stT (T x) == 2
theorem selT_snoc (T : TK → Option Int) (ss : List TK) (x : TK) : selT T (ss ++ [x]) = selT T ss ++ if (stT (T x) == 2) = true then [x] else [] := by
  unfold selT
  rw [List.filter_append]
  by_cases hc : (stT (T x) == 2) = true <;> simp [hc]
/-- What stands in order, and what the map says, are one. -/
structure Takes (T : TK → Option Int) (TT : TL) : Prop where
  eq : ∀ k, InK k → T k = lookT TT k
  ord : (TT.map (·.1)).Pairwise ltP
  ink : ∀ e ∈ TT, InK e.1
theorem eqK_self (t : TK) : eqK t t = true := (eqK_iff t t).2 rfl
theorem eqK_ne {x t : TK} (h : x ≠ t) : eqK x t = false := by
  cases hq : eqK x t
  · rfl
  · exact absurd ((eqK_iff _ _).1 hq) h
theorem lookT_cons (e : TK × Int) (TT : TL) (t : TK) : lookT (e :: TT) t = if e.1 = t then some e.2 else lookT TT t := by
  unfold lookT
  rw [List.find?_cons]
  by_cases h : e.1 = t
  · rw [if_pos h, h, eqK_self]; rfl
  · rw [if_neg h, eqK_ne h]
theorem look_memT {TT : TL} {x : TK} {s : Int} (h : lookT TT x = some s) : (x, s) ∈ TT := by
  unfold lookT at h
  obtain ⟨e, he, rfl⟩ := Option.map_eq_some_iff.1 h
  have h1 := List.find?_some he
  rw [eqK_iff] at h1
  rw [← h1]
  exact List.mem_of_find?_eq_some he
theorem look_mem {TT : TL} (ho : (TT.map (·.1)).Pairwise ltP) (x : TK) (s : Int) : lookT TT x = some s ↔ (x, s) ∈ TT := by
  refine ⟨look_memT, fun hm => ?_⟩
  induction TT with
  | nil => cases hm
  | cons e TT ih =>
    rw [List.map_cons, List.pairwise_cons] at ho
    rw [lookT_cons]
    rcases List.mem_cons.1 hm with h | h
    · rw [← h, if_pos rfl]
    · rw [if_neg (fun e2 => ltP_irrefl x (by have := ho.1 x (List.mem_map.2 ⟨_, h, rfl⟩); rwa [e2] at this)), ih ho.2 h]
theorem srt_sel {T : TK → Option Int} {TT : TL} {ss : List TK} (h : Takes T TT) (hn : ss.Nodup) (hm : ∀ x, x ∈ ss ↔ InK x ∧ (T x).isSome = true) : srt (selT T ss) = dL TT := by
  refine srt_of (hn.filter _) ?_ (fun x => ?_)
  · unfold dL
    have := h.ord
    rw [List.pairwise_map] at this ⊢
    exact this.filter _
  · unfold selT dL
    rw [List.mem_filter, hm, List.mem_map]
    constructor
    · rintro ⟨⟨hk, hs⟩, h2⟩
      rw [h.eq x hk] at hs h2
      cases hl : lookT TT x with
      | none => rw [hl] at hs; cases hs
      | some s =>
        rw [hl] at h2
        exact ⟨(x, s), List.mem_filter.2 ⟨(look_mem h.ord x s).1 hl, h2⟩, rfl⟩
    · rintro ⟨e, he, rfl⟩
      rw [List.mem_filter] at he
      have hk := h.ink e he.1
      have hl := (look_mem h.ord e.1 e.2).2 he.1
      refine ⟨⟨hk, ?_⟩, ?_⟩
      · rw [h.eq _ hk, hl]; rfl
      · rw [h.eq _ hk, hl]; exact he.2
def DI (W0 : World) (T : TK → Option Int) (ss : List TK) (v : Value) (wr : World) : Prop := wr.ownsRow (W0.heap.size + 1) 33 3 v (selT T ss).length ((selT T ss).flatMap encK) ∧ Below W0.heap.size W0 wr
section
variable {w : World} {B n p : Nat} {F : Nat → Prop} {RM : TK → Option RunM} {T : TK → Option Int} {TT : TL}
set_option maxRecDepth 100000 in
set_option maxHeartbeats 4000000 in
theorem doubt_any (h : Bk w B n F p RM T) (ht : Takes T TT) (hn : n ≤ 1000000) :
    Calls Try.prog 28 #[.pointer (some ⟨p, 0, none⟩)] w fun e w' => DkR w (dL TT) e w' := by
  obtain ⟨i0, hi0, hz0, hz1, hz2⟩ := info_parts info33
  have HI := Lib.hid (And.intro hi0 (And.intro hz0 (And.intro hz1 hz2)))
  clear hi0 hz0 hz1 hz2
  obtain ⟨a, b, R, hA, _⟩ := h
  obtain ⟨D, hD, hD2⟩ := hA.takes
  obtain ⟨cp0, cp1⟩ := hA.cells
  have hDS : Maps.size D ≤ n := hD.size_le
  have H1 := Lib.hid (And.intro hD2 (And.intro hDS ht))
  have hblt := hD.lt
  have HBL := Lib.hid hblt
  clear hA hD2 hDS ht
  go_enter Try.func28, Try.ntmps28
  go_wp2_with (at_range; refine wpList_range_own _ rfl _ 52 rfl 33 3 law33 Try.underlying52 tok b n D rfl hD ?_; intro w3 hrg hg hs)
  have hb3 : Below w.heap.size w w3 := (Below.refl _ w).grown hg (Nat.le_refl _) (fun g e => by cases e)
  have HC0 := Lib.hid (show DI w T [] (.slice none 0 0) w3 from ⟨World.ownsRow_nil _ _ _ _, hb3⟩)
  clear hg hs hb3 hD
  go_frame
  go_loopw [3] (fun v wr => ∃ (left : Lit → Bool) (cn : Nat) (ss : List TK), wr.ranges Try.prog 33 tok b w.heap.size n D left cn ∧ ss.length + cn ≤ Maps.size D ∧ Hid (KeyIs D left ss) ∧ Hid (DI w T ss v wr))
    (fun _ wr => wr.rangeLeft b w.heap.size)
  case atStart => exact ⟨_, _, [], hrg, by simp, Lib.hid (KeyIs.start D), HC0⟩
  case round =>
    obtain ⟨left, cn, ss, hrg2, hcs, HC, HJ⟩ := hrel
    clear hrg HC0
    obtain ⟨ao3, cap3, ev3, _, _⟩ := own_slice HJ.out.1
    subst ev3
    obtain ⟨k, hk⟩ : ∃ k, (selT T ss).length = k := ⟨_, rfl⟩
    have hks : k ≤ ss.length := by rw [← hk]; exact List.length_filter_le _ _
    have hkn : k ≤ 1000000 := by have h2 := H1.out.2.1; omega
    have hj := HJ.out
    unfold DI at hj
    rw [hk] at hj ⊢
    have HJ2 := Lib.hid (And.intro hj hk)
    clear hj hk HJ
    go_wp2_with (at_next; refine wpList_next_ranges _ rfl _ rfl 33 law33 tok kv id (fun key kl hk => by obtain ⟨x, _, hx⟩ := key33_inv hk; exact ⟨x, hx⟩) (fun v _ _ => ⟨v, rfl⟩) b w.heap.size n _ _ _ rfl hrg2 ?_ ?_)
    · intro hc0 hl0
      have HSo := Lib.hid (sort_any HJ2.out.1.1 (by have h1 := HJ2.out.1.2.size; have h2 := hrg2.lt; omega) hkn)
      have HSet := Lib.hid (srt_sel H1.out.2.2 HC.out.1.1 (fun x => by
        constructor
        · intro hx
          have hi := HC.out.1.2 x hx
          have := ((HC.out.2 x hi).1 hx).1
          rw [(H1.out.1 x hi).2] at this
          refine ⟨hi, ?_⟩
          simpa [intV] using this
        · rintro ⟨hi, hs⟩
          refine (HC.out.2 x hi).2 ⟨?_, hl0 _⟩
          rw [(H1.out.1 x hi).2]
          simpa [intV] using hs))
      clear hrg2 hc0 hl0 hcs
      go_wp2_with (go_at_call 42; refine HSo.out.mono ?_; rintro e w6 ⟨rfl, ho, ht⟩; have H6 := Lib.hid (And.intro ho ht); clear ho ht)
      go_ret
      refine ⟨_, rfl, ?_, HJ2.out.1.2.trans (H6.out.2.mono (by omega))⟩
      have h6 := H6.out.1
      rw [HSet.out] at h6
      have hl : (dL TT).length = k := by rw [← HSet.out, srt_length]; exact HJ2.out.2
      unfold OwnK
      rw [hl]
      exact own_base h6 (by omega)
    · intro xa xb xc c kl yd yp w4 cn2 hkey hlk hv hat hrg3 hlt hg2 hs2 hen
      obtain ⟨x, hx32, ex⟩ := key33_inv hkey
      obtain ⟨rfl, rfl, rfl⟩ : xa = x.1 ∧ xb = x.2.1 ∧ xc = x.2.2 := by have h := kv_inj ex; rw [← h]; exact ⟨rfl, rfl, rfl⟩
      change keyOf Try.prog 33 (kv x) = some kl at hkey
      obtain rfl : KL x = kl := by have := key33 hx32; rw [this] at hkey; exact Option.some.inj hkey
      have hyd : yd = .held c := by
        have : tok c = some (yd, yp) := hv
        simp [tok] at this; exact this.1.symm
      subst hyd
      have hh := has_of_at D hat
      have hcv : c = .int .i64 (stT (T x)) := by
        have h1 := (H1.out.1 x hx32).1
        rw [hat] at h1
        injection h1 with h1
        rw [h1]
        unfold intV stT
        cases T x <;> rfl
      subst hcv
      have hb4 : Below w.heap.size w w4 := HJ2.out.1.2.grown hg2 HJ2.out.1.2.size (fun g e => by have := Option.some.inj e; omega)
      have ho4 := own_on HJ2.out.1.1 (fun g e => hg2.block g (World.ownsRow.lt HJ2.out.1.1 g e).2 (fun e2 => by have h1 := (World.ownsRow.lt HJ2.out.1.1 g e).1; have h2 := Option.some.inj e2; omega))
      have H4 := Lib.hid (And.intro hb4 (And.intro ho4 hrg3))
      have HC2 := Lib.hid (HC.out.step hx32 hlk hh)
      have HSn := Lib.hid (selT_snoc T ss x)
      have HLt := Lib.hid (show cn2 < wr.rangeLeft b w.heap.size by rw [hrg2.left_eq]; exact hlt)
      have hcs2 : (ss ++ [x]).length + cn2 ≤ Maps.size D := by simp; omega
      clear hb4 ho4 hrg3 hat hv hlk hh hkey ex hrg2 hg2 hs2 hlt hcs
      simp only [kv] at hen ⊢
      obtain ⟨s, hs⟩ : ∃ s, stT (T x) = s := ⟨_, rfl⟩
      rw [hs] at HSn hen ⊢
      clear hs
      by_cases h2 : s = 2
      · subst h2
        go_wp2_with (at_builtin; refine wpList_append_lies _ rfl (.tmp 20) (.tmp 22) 67 rfl (w.heap.size + 1) 33 i0 _ 3 12 Try.underlying67 HI.out.1 HI.out.2.1 HI.out.2.2.1 HI.out.2.2.2 rfl (by decide) (.slice ao3 k cap3) k ((selT T ss).flatMap encK) rfl ((H4.out.2.1.alloc _).alloc _) ⟨w4.heap.size + 1, 0, none⟩ 1 1 (encK x) rfl (by first | rfl | simp) (newsK2 w4 _ x) (oneK _) (by decide) (by unfold maxLen; omega) (by omega) (by have h1 := H4.out.2.2.lt; simp; omega) _ rfl ?_; intro g5 c5 w5 hown hgrow _ _; have HG := Lib.hid (And.intro hown hgrow); clear hown hgrow)
        have hE := Lib.hid (show DI w T (ss ++ [x]) _ w5 ∧ w5.ranges Try.prog 33 tok b w.heap.size n D _ cn2 from by
          have hlt6 : ∀ g, (Value.slice ao3 k cap3).ownBlock = some g → w.heap.size + 1 ≤ g := fun g e => (World.ownsRow.lt H4.out.2.1 g e).1
          refine ⟨?_, (((H4.out.2.2.alloc _).alloc _)).kept HG.out.2 (fun e => by have := hlt6 b e.symm; have := HBL.out; omega) (fun e => by have := hlt6 w.heap.size e.symm; omega)⟩
          unfold DI
          rw [HSn.out]
          simp only [BEq.rfl, if_true, List.length_append, List.length_cons, List.length_nil, List.flatMap_append, List.flatMap_cons, List.flatMap_nil, List.append_nil]
          rw [HJ2.out.2]
          exact ⟨HG.out.1, ((H4.out.1.alloc H4.out.1.size _).alloc (by have := H4.out.1.size; simp; omega) _).grown HG.out.2 (by have := H4.out.1.size; simp; omega) (fun g e => by have := hlt6 g e; omega)⟩)
        have hE1 := Lib.hid hE.out.1
        have hE2 := hE.out.2
        go_roundw
        case rel => exact ⟨_, cn2, ss ++ [x], hE2, hcs2, HC2, hE1⟩
        case measure => rw [hE2.left_eq]; exact HLt.out
      · have hb : (s == 2) = false := by simpa using h2
        rw [hb] at HSn
        go_wp2
        have hE := Lib.hid (show DI w T (ss ++ [x]) (.slice ao3 k cap3) (w4.alloc (.cells #[.int .u8 x.1, .int .u32 x.2.1, .int .u32 x.2.2] 33)) from by
          unfold DI
          rw [HSn.out]
          simp only [Bool.false_eq_true, if_false, List.append_nil]
          rw [HJ2.out.2]
          exact ⟨H4.out.2.1.alloc _, H4.out.1.alloc H4.out.1.size _⟩)
        have hE2 := H4.out.2.2.alloc (.cells #[.int .u8 x.1, .int .u32 x.2.1, .int .u32 x.2.2] 33)
        go_roundw
        case rel => exact ⟨_, cn2, ss ++ [x], hE2, hcs2, HC2, hE⟩
        case measure => rw [hE2.left_eq]; exact HLt.out
end
end Go.Proofs.Ytklalpamcfkngaa.Cm
