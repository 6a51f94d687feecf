/- span: the law on what comes back, walked. -/
import Derived.Test.YtgbhdccadelcfaaU6
import Derived.Test.YtgbhdccadelcfaaT4
import Derived.Test.YtgbhdccadelcfaaT5
import Derived.Test.YtgbhdccadelcfaaR5
import Derived.Test.YtgbhdccadelcfaaT8
import Derived.Test.YtgbhdccadelcfaaRow
namespace Go.Proofs.Ytgbhdccadelcfaa.Sp
open Go Go.RowKit
theorem near_cellsV {w : World} {z : Nat} {x y : Int} {t : TypeId} (h : w.heap[z]? = some (.cells #[.int .u32 x, .int .u32 y] t (0, 0))) : w.cell? ⟨z, 0, none⟩ = some (.int .u32 x) ∧ w.cell? ⟨z, 1, none⟩ = some (.int .u32 y) := by simp [World.cell?, h]
def BoxR (w : World) (x1 x2 : Int) (wr : World) : Prop := wr.heap[w.heap.size]? = some (.cells #[.int .u32 x1, .int .u32 x2] 31 (0, 0))
theorem kset {n0 p : Nat} {w0 wr : World} {R : World → Prop} {S : SL} (h : KSt n0 w0 p (fun T => T = S) R wr) : SetIs n0 w0 wr p S := by
  obtain ⟨T, e, h'⟩ := KSt.set h
  subst e
  exact h'
theorem KSt.impR {n0 p : Nat} {w0 wr : World} {C : SL → Prop} {R Q : World → Prop} (h : KSt n0 w0 p C R wr) (hi : ∀ w, R w → Q w) : KSt n0 w0 p C Q wr := by
  obtain ⟨Zs, T, h1, h2, h3⟩ := h
  exact ⟨Zs, T, h1, h2, fun w' ht => hi w' (h3 w' ht)⟩
theorem rd46 {w : World} {z : Nat} {a b : Int} (h : w.heap[z]? = some (.cells #[.int .u32 a, .int .u32 b] 46 (0, 0))) : Rd2 w (some ⟨z, 0, none⟩) [(a, b)] := fun i t ht => by
  have hz := (Array.getElem?_eq_some_iff.1 h).1
  match i, ht with
  | 0, ht =>
    simp only [List.getElem?_cons_zero, Option.some.injEq] at ht
    subst ht
    exact ⟨z, 0, rfl, hz, by simp [World.cell?, h], by simp [World.cell?, h]⟩
  | i + 1, ht => simp at ht
theorem of_one (x1 x2 : Int) (w : World) (z : Nat) (hz : w.heap[z]? = some (.cells #[.int .u32 x1, .int .u32 x2] 46 (0, 0))) (h0 : 0 ≤ x1) (h12 : x1 ≤ x2) (h2 : x2 ≤ 4294967295) :
    Calls Try.prog 23 #[.slice (some ⟨z, 0, none⟩) 1 1] w fun e w' => ∃ p Y, e = .returned (.tuple #[.pointer (some ⟨p, 0, none⟩), .int .i64 0]) ∧ SetIs w.heap.size w w' p Y ∧ (∀ n, mem Y n ↔ x1 ≤ n ∧ n ≤ x2) ∧ Y.length ≤ 1 := by
  refine (of_any (some ⟨z, 0, none⟩) 1 1 [(x1, x2)] w (rd46 hz) rfl (by omega) (fun t ht => ?_)).mono ?_
  · rw [List.mem_singleton] at ht
    subst ht
    exact ⟨⟨h0, by omega⟩, ⟨by omega, h2⟩⟩
  · rintro e w' (⟨_, p, rfl, Y, k1, k2, k3⟩ | ⟨⟨t, ht, hlt⟩, _⟩)
    · exact ⟨p, Y, rfl, k1, fun n => by rw [k2 n, mem_one], k3⟩
    · rw [List.mem_singleton] at ht
      subst ht
      simp only at hlt
      omega
/-- What stands beside the set. -/
def BkR (w : World) (x1 x2 : Int) (p2 p3 b6 : Nat) (qo : Option Addr) (qc : Nat) (S Y K : SL) (wr : World) : Prop :=
  BoxR w x1 x2 wr ∧ wr.ownsRow b6 31 2 (.slice qo S.length qc) S.length (fl S) ∧ Set2 w.heap.size p2 Y wr ∧ Set2 w.heap.size p3 K wr
theorem rd_row {w : World} {B e c : Nat} {ao : Option Addr} {L : SL} (h : w.ownsRow B e 2 (.slice ao L.length c) L.length (fl L)) : Rd2 w ao L := by
  obtain ⟨ao', cap, e, _, hr⟩ := rd_own h
  simp only [Value.slice.injEq] at e
  obtain ⟨rfl, _, _⟩ := e
  exact hr
/-- What the set has while it is being filled again. -/
def BkC (S K : SL) (x1 x2 : Int) (j : Nat) (M : SL) : Prop := (∀ n, mem M n ↔ (mem S n ∧ ¬ (x1 ≤ n ∧ n ≤ x2)) ∨ mem (K.take j) n) ∧ M.length ≤ 28 + j
theorem bkc_start {S K T : SL} {x1 x2 : Int} (hS : S.length ≤ 25) (h : DropC (AddC (fun T => T = S) x1 x2) x1 x2 T) : BkC S K x1 x2 0 T := by
  obtain ⟨T', ⟨T'', e, m1, l1⟩, m2, l2⟩ := h
  have e' : T'' = S := e
  subst e'
  refine ⟨fun n => ?_, by omega⟩
  rw [m2 n, m1 n, List.take_zero, mem_none]
  constructor
  · rintro ⟨h1 | h1, h2⟩
    · exact .inl ⟨h1, h2⟩
    · exact absurd h1 h2
  · rintro (⟨h1, h2⟩ | h1)
    · exact ⟨.inl h1, h2⟩
    · exact h1.elim
theorem bkc_next {S K M : SL} {x1 x2 : Int} {k : Nat} {t : Int × Int} (ht : K[k]? = some t) (h : AddC (BkC S K x1 x2 k) t.1 t.2 M) : BkC S K x1 x2 (k + 1) M := by
  obtain ⟨T, ⟨m1, l1⟩, m2, l2⟩ := h
  refine ⟨fun n => ?_, by omega⟩
  rw [m2 n, m1 n, take_next ht, mem_snoc, or_assoc]
theorem bkc_end {S K Y M : SL} {x1 x2 : Int} (hS : Canon S) (hM : Canon M) (hY : ∀ n, mem Y n ↔ x1 ≤ n ∧ n ≤ x2) (hK : ∀ n, mem K n ↔ mem S n ∧ mem Y n) (h : BkC S K x1 x2 K.length M) : M = S := by
  refine canon_ext hM hS (fun n => ?_)
  rw [h.1 n, List.take_length, hK n, hY n]
  constructor
  · rintro (⟨h1, _⟩ | ⟨h1, _⟩) <;> exact h1
  · intro h1
    by_cases h2 : x1 ≤ n ∧ n ≤ x2
    · exact .inr ⟨h1, h2⟩
    · exact .inl ⟨h1, h2⟩
def BkL (w : World) (x1 x2 : Int) (p p2 p3 b6 b12 : Nat) (qo ko : Option Addr) (qc kc : Nat) (S Y K : SL) (k : Nat) (wr : World) : Prop :=
  KSt w.heap.size w p (BkC S K x1 x2 k) (fun w' => BkR w x1 x2 p2 p3 b6 qo qc S Y K w' ∧ w'.ownsRow b12 46 2 (.slice ko K.length kc) K.length (fl K)) wr
/-- Ahead of the other sets. -/
def BkA (w : World) (p : Nat) (x1 x2 : Int) (i : Nat) (wr : World) : Prop := KSt w.heap.size w p (fun T => T.length ≤ min i 25) (BoxR w x1 x2) wr
set_option maxRecDepth 100000 in
set_option maxHeartbeats 4000000 in
theorem back_law (ao : Option Addr) (ca : Nat) (La : SL) (x1 x2 : Int) (w : World) (hA : Rd2 w ao La) (iA : InB La) (mA : La.length ≤ maxLen) (hx : (0 ≤ x1 ∧ x1 ≤ 4294967295) ∧ (0 ≤ x2 ∧ x2 ≤ 4294967295)) :
    Calls Try.prog 6 #[.slice ao La.length ca, .agg #[.int .u32 x1, .int .u32 x2]] w fun e w' => e = .returned (.bool true) ∧ Below w.heap.size w w' := by
  have HA := Lib.hid (And.intro hA iA)
  have HX := Lib.hid hx
  unfold maxLen at mA
  obtain ⟨la, hla⟩ : ∃ la, La.length = la := ⟨_, rfl⟩
  rw [hla] at mA ⊢
  have HLA := Lib.hid hla
  clear hA iA hla hx
  have hb0 : Below w.heap.size w (w.alloc (.cells #[.int .u32 x1, .int .u32 x2] 31)) := (Below.refl _ w).alloc (Nat.le_refl _) _
  have HZ0 := Lib.hid (And.intro hb0 (heap_alloc_new w (.cells #[.int .u32 x1, .int .u32 x2] 31)))
  clear hb0
  go_enter Try.func6, Try.ntmps6
  go_upto_region 4 with (first
    | (go_at_call 8; refine (awake_any _).mono ?_; rintro e w1 ⟨rfl, hb⟩; have A1 := Lib.hid (And.intro (HZ0.out.1.trans (hb.mono HZ0.out.1.size)) ((hb.block _ (Array.getElem?_eq_some_iff.1 HZ0.out.2).1).trans HZ0.out.2)); clear hb)
    | (go_at_call 9; refine (is_new w1).mono ?_; rintro e w2 ⟨rfl, h⟩; have N1 := Lib.hid (show BkA w w1.heap.size x1 x2 0 w2 from (kst_new A1.out.2 A1.out.1 h).imp (fun T _ h => by simpa using h)); clear h))
  obtain ⟨p, hp⟩ : ∃ p, p = w1.heap.size := ⟨_, rfl⟩
  rw [← hp] at N1 ⊢
  clear hp A1 HZ0
  go_wp2_with fail
  go_loopw [21] (fun u wr => ∃ i : Nat, i ≤ la ∧ u = .int .i64 i ∧ Hid (BkA w p x1 x2 i wr)) (fun u _ => la - (intOf u).toNat)
  case atStart => exact ⟨0, by omega, rfl, N1⟩
  case round =>
    obtain ⟨i, hi, rfl, HI⟩ := hrel
    clear N1
    by_cases hlt : i < la
    · obtain ⟨t, ht⟩ : ∃ t, La[i]? = some t := ⟨_, List.getElem?_eq_getElem (by have := HLA.out; omega)⟩
      obtain ⟨b, off, rfl, _, c0, c1⟩ := (HA.out.1.on HI.out.ahead (Nat.le_refl _)) i t ht
      obtain ⟨⟨t0, t1⟩, ⟨t2, t3⟩⟩ := HA.out.2 t (List.mem_of_getElem? ht)
      have HJ := Lib.hid (KSt.below HI.out ((Below.refl wr.heap.size wr).alloc (Nat.le_refl _) (.cells #[.int .u32 t.1, .int .u32 t.2] 31)))
      clear ht
      by_cases h25 : i < 25
      · have h25i : (i : Int) < 25 := by omega
        by_cases hab : t.1 ≤ t.2
        · go_wp2_with (go_at_call 10; refine (kst_add HJ.out t.1 t.2 t0 hab t3 (fun T hT => by omega)).mono ?_; rintro e w5 ⟨rfl, h⟩; have H5 := Lib.hid (show BkA w p x1 x2 (i + 1) w5 from h.imp (fun T _ ⟨T', (hT' : T'.length ≤ min i 25), _, hl⟩ => (by omega : T.length ≤ min (i + 1) 25))); clear h)
          go_roundw
          case measure => simp [intOf]; omega
          case rel => exact ⟨i + 1, by omega, rfl, H5⟩
        · have H5 := Lib.hid (show BkA w p x1 x2 (i + 1) (wr.alloc (.cells #[.int .u32 t.1, .int .u32 t.2] 31)) from KSt.imp HJ.out (fun T _ (h : T.length ≤ min i 25) => (by omega : T.length ≤ min (i + 1) 25)))
          go_wp2_with fail
          go_roundw
          case measure => simp [intOf]; omega
          case rel => exact ⟨i + 1, by omega, rfl, H5⟩
      · have h25i : ¬ (i : Int) < 25 := by omega
        have H5 := Lib.hid (show BkA w p x1 x2 (i + 1) (wr.alloc (.cells #[.int .u32 t.1, .int .u32 t.2] 31)) from KSt.imp HJ.out (fun T _ (h : T.length ≤ min i 25) => (by omega : T.length ≤ min (i + 1) 25)))
        go_wp2_with fail
        go_roundw
        case measure => simp [intOf]; omega
        case rel => exact ⟨i + 1, by omega, rfl, H5⟩
    · obtain rfl : i = la := by omega
      obtain ⟨s1, s2⟩ := near_cellsV (KSt.r HI.out)
      clear HA HLA
      by_cases hxx : x2 < x1
      · go_wp2_with (first
          | (go_at_call 10; refine (add_arg _ x1 x2 _ hxx).mono ?_; rintro e _ ⟨rfl, rfl⟩)
          | (go_at_call 11; refine (drop_arg _ x1 x2 _ hxx).mono ?_; rintro e _ ⟨rfl, rfl⟩))
        go_ret
        exact ⟨rfl, HI.out.ahead⟩
      · have hxx' : x1 ≤ x2 := by omega
        obtain ⟨S, hS25, hSc, hK⟩ := KSt.fix HI.out
        have HS := Lib.hid (And.intro (show S.length ≤ 25 by omega) hSc)
        have HK0 := Lib.hid hK
        clear HI hK hS25 hSc hlt hi mA
        go_upto_region 13 with (first
          | (go_at_call 13; refine (is_spans (kset HK0.out) (by have := HS.out.1; omega)).mono ?_; rintro e w6 ⟨so, sc, rfl, hr, hb⟩; have H6 := Lib.hid (And.intro hr hb); clear hr hb)
          | (go_at_call 16; refine (conv_any so sc S w6 H6.out.1 (by have := HS.out.1; omega)).mono ?_; rintro e w7 ⟨vw, rfl, ho, hb⟩; obtain ⟨qo, qc, ev, _⟩ := rd_own ho; subst ev; have HK1 := Lib.hid (KSt.more (HK0.out.below H6.out.2) hb (fun w'' ht => row_in ho ht)); clear ho hb))
        clear HK0
        obtain ⟨s1, s2⟩ := near_cellsV (KSt.r HK1.out).1
        have HL7 := Lib.hid (heap_alloc_new w7 (.cells #[.int .u32 x1, .int .u32 x2] 46))
        have HB7 := Lib.hid ((Below.refl w7.heap.size w7).alloc (Nat.le_refl _) (.cells #[.int .u32 x1, .int .u32 x2] 46))
        go_upto_region 14 with (go_at_call 23; refine (of_one x1 x2 _ _ HL7.out HX.out.1.1 hxx' HX.out.2.2).mono ?_; rintro e w8 ⟨p2, Y, rfl, hs, hm, hl⟩; have HK2 := Lib.hid (KSt.more (KSt.below HK1.out HB7.out) hs.ahead (fun w'' ht => set_in hs (Nat.le_trans HK1.out.ahead.size HB7.out.size) ht)); have HY := Lib.hid (And.intro hs.can (And.intro hm hl)); clear hs hm hl)
        clear HK1 HL7 HB7 s1 s2
        go_upto_region 15 with (go_at_call 24; refine (meet_any (kset HK2.out) ((KSt.r HK2.out).2.is HK2.out.ahead) (by have := HS.out.1; omega) (by have := HY.out.2.2; omega)).mono ?_; rintro e w9 ⟨K, rfl, hs, hm, hl⟩; have HK3 := Lib.hid ((KSt.more HK2.out hs.ahead (fun w'' ht => set_in hs HK2.out.ahead.size ht)).impR (Q := BkR w x1 x2 p2 w8.heap.size w6.heap.size qo qc S Y K) (fun w ⟨⟨⟨a, b⟩, c⟩, d⟩ => ⟨a, b, c, d⟩)); have HKK := Lib.hid (And.intro hs.can (And.intro hm (show K.length ≤ 26 by have := HS.out.1; have := HY.out.2.2; omega))); clear hs hm hl)
        clear HK2
        obtain ⟨p3, hp3⟩ : ∃ p3, p3 = w8.heap.size := ⟨_, rfl⟩
        rw [← hp3] at HK3 ⊢
        clear hp3
        go_upto_region 18 with (go_at_call 17; refine (is_count ((KSt.r HK3.out).2.2.2.is HK3.out.ahead) (by have := HKK.out.2.2; omega)).mono ?_; rintro e w10 ⟨rfl, hb⟩; have HK4 := Lib.hid (HK3.out.below hb); clear hb)
        clear HK3
        obtain ⟨s1, s2⟩ := near_cellsV (KSt.r HK4.out).1
        go_upto_region 20 with (first
          | (go_at_call 10; refine (kst_add HK4.out x1 x2 HX.out.1.1 hxx' HX.out.2.2 (fun T hT => by subst hT; have := HS.out.1; omega)).mono ?_; rintro e w11 ⟨rfl, h⟩; obtain ⟨y1, y2⟩ := near_cellsV (KSt.r h).1; have HK5 := Lib.hid h; clear h)
          | (go_at_call 11; refine (kst_drop HK5.out x1 x2 HX.out.1.1 hxx' HX.out.2.2 (fun T ⟨T', hT', _, hl⟩ => by subst hT'; have := HS.out.1; omega)).mono ?_; rintro e w12 ⟨rfl, h⟩; have HK6 := Lib.hid h; clear h))
        have HK7 := Lib.hid (HK6.out.imp (fun T _ h => bkc_start (K := K) HS.out.1 h))
        clear HK4 HK5 HK6 s1 s2 y1 y2
        go_wp2_with (go_at_call 13; refine (is_spans_own ((KSt.r HK7.out).2.2.2.is HK7.out.ahead) (by have := HKK.out.2.2; omega)).mono ?_; rintro e w13 ⟨ko, kc, rfl, ho, hb⟩; have HK8 := Lib.hid (show BkL w x1 x2 p p2 p3 w6.heap.size w12.heap.size qo ko qc kc S Y K 0 w13 from KSt.more HK7.out hb (fun w'' ht => row_in ho ht)); clear ho hb)
        clear HK7
        obtain ⟨nk, hnk⟩ : ∃ nk, K.length = nk := ⟨_, rfl⟩
        have HNK := Lib.hid hnk
        have hnk26 : nk ≤ 26 := by have := HKK.out.2.2; omega
        rw [hnk]
        clear hnk
        go_loopw [108] (fun u wr => ∃ k : Nat, k ≤ nk ∧ u = .int .i64 k ∧ Hid (BkL w x1 x2 p p2 p3 w6.heap.size w12.heap.size qo ko qc kc S Y K k wr)) (fun u _ => nk - (intOf u).toNat)
        case atStart => exact ⟨0, by omega, rfl, HK8⟩
        case round =>
          obtain ⟨k, hk, rfl, HI⟩ := hrel
          clear HK8
          by_cases hlt : k < nk
          · obtain ⟨t, ht⟩ : ∃ t, K[k]? = some t := ⟨_, List.getElem?_eq_getElem (by have := HNK.out; omega)⟩
            obtain ⟨b, off, rfl, _, c0, c1⟩ := (rd_row (KSt.r HI.out).2) k t ht
            obtain ⟨t0, t1, t2⟩ := HKK.out.1.2 t (List.mem_of_getElem? ht)
            have HJ := Lib.hid (KSt.below HI.out ((Below.refl wr.heap.size wr).alloc (Nat.le_refl _) (.cells #[.int .u32 t.1, .int .u32 t.2] 46)))
            have HT := Lib.hid ht
            clear ht
            go_wp2_with (go_at_call 10; refine (kst_add HJ.out t.1 t.2 t0 t1 t2 (fun T hT => by have := hT.2; omega)).mono ?_; rintro e w14 ⟨rfl, h⟩; have HL := Lib.hid (h.imp (fun T _ h => bkc_next HT.out h)); clear h)
            go_roundw
            case measure => simp [intOf]; omega
            case rel => exact ⟨k + 1, by omega, rfl, HL⟩
          · obtain rfl : k = nk := by omega
            obtain ⟨M, hM, hMc, hMK⟩ := KSt.fix HI.out
            have hMS : M = S := bkc_end HS.out.2 hMc HY.out.2.1 HKK.out.2.1 (by rw [HNK.out]; exact hM)
            rw [hMS] at hMK
            have HK9 := Lib.hid hMK
            have hle : card K ≤ card Y := card_sub HKK.out.1 HY.out.1 (fun n hn => ((HKK.out.2.1 n).1 hn).2)
            clear HI hM hMc hMK hMS hlt hk
            go_wp2_with (first
              | (go_at_call 13; refine (is_spans (kset HK9.out) (by have := HS.out.1; omega)).mono ?_; rintro e w14 ⟨so2, sc2, rfl, hr, hb⟩; have H14 := Lib.hid (And.intro hr (HK9.out.below hb)); clear hr hb)
              | (go_at_call 16; refine (is_conv H14.out.1 (by have := HS.out.1; omega)).mono ?_; rintro e w15 ⟨co, cc, rfl, hr, hb⟩; have H15 := Lib.hid (And.intro hr (H14.out.2.below hb)); clear hr hb)
              | (go_at_call 15; refine (same_any co qo cc qc S S w15 H15.out.1 (rd_row (KSt.r H15.out.2).1.2.1) (by have := HS.out.1; omega) (by have := HS.out.1; omega)).mono ?_; rintro e w16 ⟨he, hb⟩; rw [decide_eq_true rfl] at he; subst he; have H16 := Lib.hid (H15.out.2.below hb); clear hb)
              | (go_at_call_of 17 (Value.pointer (some (Addr.mk p2 0 none))); refine (is_count ((KSt.r H16.out).1.2.2.1.is H16.out.ahead) (by have := HY.out.2.2; omega)).mono ?_; rintro e w17 ⟨rfl, hb⟩; have H17 := Lib.hid (H16.out.below hb); clear hb)
              | (go_at_call_of 17 (Value.pointer (some (Addr.mk p 0 none))); refine (is_count (kset H17.out) (by have := HS.out.1; omega)).mono ?_; rintro e w18 ⟨rfl, hb⟩; have H18 := Lib.hid (H17.out.below hb); clear hb)
              | (go_at_call 18; refine (count18 qo qc S w18 (rd_row (KSt.r H18.out).1.2.1) HS.out.2 (by have := HS.out.1; omega)).mono ?_; rintro e w19 ⟨rfl, hb⟩; have H19 := Lib.hid (H18.out.below hb); clear hb))
            go_ret
            exact ⟨rfl, H19.out.ahead⟩
end Go.Proofs.Ytgbhdccadelcfaa.Sp
