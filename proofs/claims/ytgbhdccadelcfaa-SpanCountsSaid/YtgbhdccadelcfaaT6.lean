/- span: the law on two sets' numbers, walked. -/
import Derived.Test.YtgbhdccadelcfaaT5
import Derived.Test.YtgbhdccadelcfaaT4
import Derived.Test.YtgbhdccadelcfaaRow
namespace Go.Proofs.Ytgbhdccadelcfaa.Sp
open Go Go.RowKit
theorem near_cellsT {w : World} {z : Nat} {x y : Int} {t : TypeId} (h : w.heap[z]? = some (.cells #[.int .u32 x, .int .u32 y] t (0, 0))) : w.cell? ⟨z, 0, none⟩ = some (.int .u32 x) ∧ w.cell? ⟨z, 1, none⟩ = some (.int .u32 y) := by simp [World.cell?, h]
/-- What the law knows of its sets: the third has what the others have. -/
def CtI (w : World) (px py pu zb : Nat) (o : Obj) (c : Nat) (wr : World) : Prop :=
  ∃ X Y U, Trio w.heap.size w wr (fun z => z = zb) px py pu X Y U ∧ (∀ n, mem U n ↔ mem X n ∨ mem Y n) ∧ X.length ≤ c ∧ Y.length ≤ c ∧ U.length ≤ c ∧ wr.heap[zb]? = some o
theorem CtI.mono {w : World} {px py pu zb : Nat} {o : Obj} {c d : Nat} {wr : World} (h : CtI w px py pu zb o c wr) (hd : c ≤ d) : CtI w px py pu zb o d wr := by
  obtain ⟨X, Y, U, h1, h2, h3, h4, h5, h6⟩ := h
  exact ⟨X, Y, U, h1, h2, by omega, by omega, by omega, h6⟩
theorem CtI.alloc {w : World} {px py pu zb : Nat} {o : Obj} {c : Nat} {wr : World} (h : CtI w px py pu zb o c wr) (ob : Obj) : CtI w px py pu zb o c (wr.alloc ob) := by
  obtain ⟨X, Y, U, h1, h2, h3, h4, h5, h6⟩ := h
  exact ⟨X, Y, U, h1.below ((Below.refl _ _).alloc (Nat.le_refl _) _), h2, h3, h4, h5, (heap_alloc_old _ _ (Array.getElem?_eq_some_iff.1 h6).1).trans h6⟩
theorem CtI.ahead {w : World} {px py pu zb : Nat} {o : Obj} {c : Nat} {wr : World} (h : CtI w px py pu zb o c wr) : Below w.heap.size w wr := by
  obtain ⟨X, Y, U, h1, _⟩ := h
  exact h1.sx.ahead
theorem or_three (x y s : Prop) : ((x ∨ y) ∨ s) ↔ ((x ∨ s) ∨ y) := by rw [or_assoc, or_assoc, or_comm (a := y)]
theorem or_three2 (x y s : Prop) : ((x ∨ y) ∨ s) ↔ (x ∨ (y ∨ s)) := or_assoc
set_option maxRecDepth 100000 in
set_option maxHeartbeats 4000000 in
theorem counts_law (ao bo : Option Addr) (ca cb : Nat) (La Lb : SL) (n : Int) (w : World) (hA : Rd2 w ao La) (hB : Rd2 w bo Lb) (iA : InB La) (iB : InB Lb) (mA : La.length ≤ maxLen) (mB : Lb.length ≤ maxLen) :
    Calls Try.prog 7 #[.slice ao La.length ca, .slice bo Lb.length cb, .int .u32 n] w fun e w' => e = .returned (.bool true) ∧ Below w.heap.size w w' := by
  have HA := Lib.hid (And.intro hA iA)
  have HB := Lib.hid (And.intro hB iB)
  unfold maxLen at mA mB
  obtain ⟨la, hla⟩ : ∃ la, La.length = la := ⟨_, rfl⟩
  obtain ⟨lb, hlb⟩ : ∃ lb, Lb.length = lb := ⟨_, rfl⟩
  rw [hla] at mA ⊢
  rw [hlb] at mB ⊢
  have HLN := Lib.hid (And.intro hla hlb)
  clear hA hB iA iB hla hlb
  go_enter Try.func7, Try.ntmps7
  go_upto_region 4 with (first
    | (go_at_call 8; refine (awake_any w).mono ?_; rintro e w1 ⟨rfl, hb⟩; have A1 := Lib.hid hb; clear hb)
    | (go_at_call 9; have hh := N2; clear hh; refine (new_any w3).mono ?_; rintro e w4 ⟨rfl, h⟩; have N3 := Lib.hid h; clear h)
    | (go_at_call 9; have hh := N1; clear hh; refine (new_any w2).mono ?_; rintro e w3 ⟨rfl, h⟩; have N2 := Lib.hid h; clear h)
    | (go_at_call 9; refine (new_any w1).mono ?_; rintro e w2 ⟨rfl, h⟩; have N1 := Lib.hid h; clear h))
  have hT := trio_new w1 w2 w3 w4 w.heap.size w A1.out A1.out.size N1.out N2.out N3.out
  obtain ⟨px, hpx⟩ : ∃ px, px = w1.heap.size := ⟨_, rfl⟩
  obtain ⟨py, hpy⟩ : ∃ py, py = w2.heap.size := ⟨_, rfl⟩
  obtain ⟨pu, hpu⟩ : ∃ pu, pu = w3.heap.size := ⟨_, rfl⟩
  rw [← hpx, ← hpy, ← hpu] at hT ⊢
  have hT2 := (hT.alloc (.cells #[.slice ao la ca, .slice bo lb cb] 39)).more (Zt := fun z => z = w4.heap.size) (fun z h => .inr h)
  have HC := Lib.hid (show CtI w px py pu w4.heap.size (.cells #[.slice ao la ca, .slice bo lb cb] 39) 0 (w4.alloc (.cells #[.slice ao la ca, .slice bo lb cb] 39)) from ⟨[], [], [], hT2, fun n => by simp [mem_none], by simp, by simp, by simp, heap_alloc_new w4 _⟩)
  obtain ⟨zb, hzb⟩ : ∃ zb, zb = w4.heap.size := ⟨_, rfl⟩
  clear hT hT2 hpx hpy hpu
  go_wp2_with fail
  rw [← hzb] at HC ⊢
  clear hzb
  go_loopw [26] (fun u wr => ∃ i : Nat, i ≤ 2 ∧ u = .int .i64 i ∧ Hid (CtI w px py pu zb (.cells #[.slice ao la ca, .slice bo lb cb] 39) (25 * i) wr)) (fun u _ => 2 - (intOf u).toNat)
  case atStart => exact ⟨0, by omega, rfl, Lib.hid HC.out⟩
  case round =>
    obtain ⟨i, hi, rfl, HI⟩ := hrel
    clear HC N1 N2 N3 A1
    by_cases hi2 : i < 2
    · obtain ⟨d0, d1⟩ : wr.cell? ⟨zb, 0, none⟩ = some (.slice ao la ca) ∧ wr.cell? ⟨zb, 1, none⟩ = some (.slice bo lb cb) := by
        obtain ⟨X, Y, U, _, _, _, _, _, h⟩ := HI.out
        simp [World.cell?, h]
      have hcase : i = 0 ∨ i = 1 := by omega
      rcases hcase with rfl | rfl
      · go_wp2_with fail
        go_loopw [33] (fun u wr => ∃ j : Nat, j ≤ la ∧ u = .int .i64 j ∧ Hid (CtI w px py pu zb (.cells #[.slice ao la ca, .slice bo lb cb] 39) (25 * 0 + min j 25) wr)) (fun u _ => la - (intOf u).toNat)
        case atStart => exact ⟨0, by omega, rfl, Lib.hid (HI.out.mono (by omega))⟩
        case round =>
          obtain ⟨j, hj, rfl, HJ⟩ := hrel
          clear HI d0 d1
          by_cases hlt : j < la
          · obtain ⟨s, hs⟩ : ∃ s, La[j]? = some s := ⟨_, List.getElem?_eq_getElem (by have := HLN.out; omega)⟩
            obtain ⟨⟨s0, s1⟩, ⟨s2, s3⟩⟩ := HA.out.2 s (List.mem_of_getElem? hs)
            obtain ⟨g, og, rfl, _, c1, c2⟩ := (HA.out.1.on HJ.out.ahead (Nat.le_refl _)) j s hs
            have HK := Lib.hid (HJ.out.alloc (.cells #[.int .u32 s.1, .int .u32 s.2] 31))
            clear hs
            by_cases h25 : j < 25
            · by_cases hle : s.1 ≤ s.2
              · obtain ⟨X, Y, U, T, hm, x1, x2, x3, hz⟩ := HJ.out
                have HT := Lib.hid (T.alloc (.cells #[.int .u32 s.1, .int .u32 s.2] 31))
                have HN := Lib.hid (And.intro (heap_alloc_new wr (.cells #[.int .u32 s.1, .int .u32 s.2] 31)) ((heap_alloc_old wr (.cells #[.int .u32 s.1, .int .u32 s.2] 31) (Array.getElem?_eq_some_iff.1 hz).1).trans hz))
                have HX := Lib.hid (And.intro hm (And.intro x1 (And.intro x2 x3)))
                clear T hm x1 x2 x3 hz
                go_wp2_with (first
                  | (go_at_call 10; have hh := T5; clear hh; refine (trio_add T5.out.2.2.1.turn s.1 s.2 s0 hle s3 (by have := HX.out; omega)).mono ?_; rintro e w6 ⟨rfl, V, v1, v2, v3, v4⟩; have T6 := Lib.hid (And.intro v1 (And.intro v2 (And.intro v3 v4))); clear v1 v2 v3 v4)
                  | (go_at_call 10; refine (trio_add HT.out s.1 s.2 s0 hle s3 (by have := HX.out; omega)).mono ?_; rintro e w5 ⟨rfl, V5, v1, v2, v3, v4⟩; have T5 := Lib.hid (And.intro v1 (And.intro v2 (And.intro v3 v4))); obtain ⟨n1, n2⟩ := near_cellsT ((v4 _ (.inr rfl)).trans HN.out.1); clear v1 v2 v3 v4))
                go_roundw
                case measure => simp [intOf]; omega
                case rel =>
                  repeat apply Exists.intro
                  refine ⟨⟨j + 1, by omega, rfl, Lib.hid ?_⟩, ?_⟩
                  · obtain ⟨m1, m2, m3, m4⟩ := T5.out
                    obtain ⟨k1, k2, k3, k4⟩ := T6.out
                    obtain ⟨hm, x1, x2, x3⟩ := HX.out
                    refine ⟨V5, Y, V, k3.turn.more (fun z h => .inl h), fun n => ?_, by omega, by omega, by omega, ?_⟩
                    · rw [k1 n, hm n, m1 n]
                      exact or_three _ _ _
                    · exact (k4 zb (.inl rfl)).trans ((m4 zb (.inl rfl)).trans HN.out.2)
                  · repeat' (first | rfl | refine ⟨rfl, ?_⟩)
              · have hgt : s.2 < s.1 := by omega
                go_wp2_with fail
                go_roundw
                case measure => simp [intOf]; omega
                case rel => exact ⟨_, _, _, _, _, ⟨j + 1, by omega, rfl, Lib.hid (HK.out.mono (by omega))⟩, rfl, rfl, rfl, rfl, rfl⟩
            · go_wp2_with fail
              go_roundw
              case measure => simp [intOf]; omega
              case rel => exact ⟨_, _, _, _, _, ⟨j + 1, by omega, rfl, Lib.hid (HK.out.mono (by omega))⟩, rfl, rfl, rfl, rfl, rfl⟩
          · obtain rfl : j = la := by omega
            go_wp2_with fail
            go_roundw
            case measure => simp [intOf]
            case rel => exact ⟨0 + 1, by omega, rfl, Lib.hid (HJ.out.mono (by omega))⟩
      · go_wp2_with fail
        go_loopw [33] (fun u wr => ∃ j : Nat, j ≤ lb ∧ u = .int .i64 j ∧ Hid (CtI w px py pu zb (.cells #[.slice ao la ca, .slice bo lb cb] 39) (25 * 1 + min j 25) wr)) (fun u _ => lb - (intOf u).toNat)
        case atStart => exact ⟨0, by omega, rfl, Lib.hid (HI.out.mono (by omega))⟩
        case round =>
          obtain ⟨j, hj, rfl, HJ⟩ := hrel
          clear HI d0 d1
          by_cases hlt : j < lb
          · obtain ⟨s, hs⟩ : ∃ s, Lb[j]? = some s := ⟨_, List.getElem?_eq_getElem (by have := HLN.out; omega)⟩
            obtain ⟨⟨s0, s1⟩, ⟨s2, s3⟩⟩ := HB.out.2 s (List.mem_of_getElem? hs)
            obtain ⟨g, og, rfl, _, c1, c2⟩ := (HB.out.1.on HJ.out.ahead (Nat.le_refl _)) j s hs
            have HK := Lib.hid (HJ.out.alloc (.cells #[.int .u32 s.1, .int .u32 s.2] 31))
            clear hs
            by_cases h25 : j < 25
            · by_cases hle : s.1 ≤ s.2
              · obtain ⟨X, Y, U, T, hm, x1, x2, x3, hz⟩ := HJ.out
                have HT := Lib.hid (T.swap.alloc (.cells #[.int .u32 s.1, .int .u32 s.2] 31))
                have HN := Lib.hid (And.intro (heap_alloc_new wr (.cells #[.int .u32 s.1, .int .u32 s.2] 31)) ((heap_alloc_old wr (.cells #[.int .u32 s.1, .int .u32 s.2] 31) (Array.getElem?_eq_some_iff.1 hz).1).trans hz))
                have HX := Lib.hid (And.intro hm (And.intro x1 (And.intro x2 x3)))
                clear T hm x1 x2 x3 hz
                go_wp2_with (first
                  | (go_at_call 10; have hh := T5; clear hh; refine (trio_add T5.out.2.2.1.turn s.1 s.2 s0 hle s3 (by have := HX.out; omega)).mono ?_; rintro e w6 ⟨rfl, V, v1, v2, v3, v4⟩; have T6 := Lib.hid (And.intro v1 (And.intro v2 (And.intro v3 v4))); clear v1 v2 v3 v4)
                  | (go_at_call 10; refine (trio_add HT.out s.1 s.2 s0 hle s3 (by have := HX.out; omega)).mono ?_; rintro e w5 ⟨rfl, V5, v1, v2, v3, v4⟩; have T5 := Lib.hid (And.intro v1 (And.intro v2 (And.intro v3 v4))); obtain ⟨n1, n2⟩ := near_cellsT ((v4 _ (.inr rfl)).trans HN.out.1); clear v1 v2 v3 v4))
                go_roundw
                case measure => simp [intOf]; omega
                case rel =>
                  repeat apply Exists.intro
                  refine ⟨⟨j + 1, by omega, rfl, Lib.hid ?_⟩, ?_⟩
                  · obtain ⟨m1, m2, m3, m4⟩ := T5.out
                    obtain ⟨k1, k2, k3, k4⟩ := T6.out
                    obtain ⟨hm, x1, x2, x3⟩ := HX.out
                    refine ⟨X, V5, V, k3.turn.swap.more (fun z h => .inl h), fun n => ?_, by omega, by omega, by omega, ?_⟩
                    · rw [k1 n, hm n, m1 n]
                      exact or_three2 _ _ _
                    · exact (k4 zb (.inl rfl)).trans ((m4 zb (.inl rfl)).trans HN.out.2)
                  · repeat' (first | rfl | refine ⟨rfl, ?_⟩)
              · have hgt : s.2 < s.1 := by omega
                go_wp2_with fail
                go_roundw
                case measure => simp [intOf]; omega
                case rel => exact ⟨_, _, _, _, _, ⟨j + 1, by omega, rfl, Lib.hid (HK.out.mono (by omega))⟩, rfl, rfl, rfl, rfl, rfl⟩
            · go_wp2_with fail
              go_roundw
              case measure => simp [intOf]; omega
              case rel => exact ⟨_, _, _, _, _, ⟨j + 1, by omega, rfl, Lib.hid (HK.out.mono (by omega))⟩, rfl, rfl, rfl, rfl, rfl⟩
          · obtain rfl : j = lb := by omega
            go_wp2_with fail
            go_roundw
            case measure => simp [intOf]
            case rel => exact ⟨1 + 1, by omega, rfl, Lib.hid (HJ.out.mono (by omega))⟩
    · obtain rfl : i = 2 := by omega
      obtain ⟨X, Y, U, T, hm, x1, x2, x3, _⟩ := HI.out
      have HT := Lib.hid T
      have HX := Lib.hid (And.intro hm (And.intro x1 (And.intro x2 x3)))
      clear T hm x1 x2 x3 HI
      cases hbx : hasB X n <;> cases hby : hasB Y n
      · have HBX := Lib.hid hbx
        have HBY := Lib.hid hby
        clear hbx hby
        go_upto_region 19 with (go_at_call 24; refine (meet_any HT.out.sx HT.out.sy (by have := HX.out; omega) (by have := HX.out; omega)).mono ?_; rintro e w5 ⟨M, rfl, hS, hM, hl⟩; have M5 := Lib.hid (And.intro (HT.out.below hS.ahead) (And.intro hS (And.intro hM hl))); clear hS hM hl)
        have hcard := card_both HT.out.sx.can HT.out.sy.can M5.out.2.1.can HT.out.su.can M5.out.2.2.1 HX.out.1
        have cM := card_nonneg M5.out.2.1.can
        have cU := card_nonneg HT.out.su.can
        have cX := card_nonneg HT.out.sx.can
        have cY := card_nonneg HT.out.sy.can
        have dX := card_le HT.out.sx.can 0 (fun t ht => (HT.out.sx.can.2 t ht).1) (by omega)
        have dY := card_le HT.out.sy.can 0 (fun t ht => (HT.out.sy.can.2 t ht).1) (by omega)
        have wr1 : IntKind.u64.wrap (card M + card U) = card X + card Y := by rw [← hcard]; simp [IntKind.wrap, IntKind.bits, IntKind.signed]; omega
        have wr2 : IntKind.u64.wrap (card X + card Y) = card X + card Y := by simp [IntKind.wrap, IntKind.bits, IntKind.signed]; omega
        have hbm : hasB M n = (hasB X n && hasB Y n) := by rw [Bool.eq_iff_iff, Bool.and_eq_true, hasB_iff, hasB_iff, hasB_iff]; exact M5.out.2.2.1 n
        have hbu : hasB U n = (hasB X n || hasB Y n) := by rw [Bool.eq_iff_iff, Bool.or_eq_true, hasB_iff, hasB_iff, hasB_iff]; exact HX.out.1 n
        rw [HBX.out, HBY.out] at hbm hbu
        have HBM := Lib.hid hbm
        have HBU := Lib.hid hbu
        have hML : M.length ≤ 1000 := by have := M5.out.2.2.2; have := HX.out; omega
        have hXL : X.length ≤ 1000 := by have := HX.out; omega
        have hYL : Y.length ≤ 1000 := by have := HX.out; omega
        have hUL : U.length ≤ 1000 := by have := HX.out; omega
        obtain ⟨pm, hpm⟩ : ∃ pm, pm = wr.heap.size := ⟨_, rfl⟩
        rw [← hpm]
        have C5 := Lib.hid (And.intro M5.out.1 (show SetIs wr.heap.size wr w5 pm M by rw [hpm]; exact M5.out.2.1))
        clear hcard cM cU cX cY dX dY hbm hbu hpm M5 HT HX
        go_wp2_with (first
          | (go_at_call 17; have hh := C8; clear hh; refine (is_count C8.out.1.sy hYL).mono ?_; rintro e w9 ⟨rfl, hb⟩; have C9 := Lib.hid (And.intro (C8.out.1.below hb) (C8.out.2.below hb)); clear hb)
          | (go_at_call 17; have hh := C7; clear hh; refine (is_count C7.out.1.sx hXL).mono ?_; rintro e w8 ⟨rfl, hb⟩; have C8 := Lib.hid (And.intro (C7.out.1.below hb) (C7.out.2.below hb)); clear hb)
          | (go_at_call 17; have hh := C6; clear hh; refine (is_count C6.out.1.su hUL).mono ?_; rintro e w7 ⟨rfl, hb⟩; have C7 := Lib.hid (And.intro (C6.out.1.below hb) (C6.out.2.below hb)); clear hb)
          | (go_at_call 17; refine (is_count C5.out.2 hML).mono ?_; rintro e w6 ⟨rfl, hb⟩; have C6 := Lib.hid (And.intro (C5.out.1.below hb) (C5.out.2.below hb)); clear hb)
          | (go_at_call 21; have hh := E4; clear hh; refine (is_has E4.out.sy hYL).mono ?_; rintro e w15 ⟨he, hb⟩; rw [HBY.out] at he; subst he; have E5 := Lib.hid (E4.out.below hb); clear hb)
          | (go_at_call 21; have hh := E3; clear hh; refine (is_has E3.out.sx hXL).mono ?_; rintro e w14 ⟨he, hb⟩; rw [HBX.out] at he; subst he; have E4 := Lib.hid (E3.out.below hb); have E5 := E4; clear hb)
          | (go_at_call 21; have hh := E2; clear hh; refine (is_has E2.out.su hUL).mono ?_; rintro e w13 ⟨he, hb⟩; rw [HBU.out] at he; subst he; have E3 := Lib.hid (E2.out.below hb); clear hb)
          | (go_at_call 21; have hh := E1; clear hh; fail)
          | (go_at_call 21; have hh := D1; clear hh; refine (is_has D1.out.1.sx hXL).mono ?_; rintro e w11 ⟨he, hb⟩; rw [HBX.out] at he; subst he; have E2 := Lib.hid (D1.out.1.below hb); clear hb)
          | (go_at_call 21; refine (is_has C9.out.2 hML).mono ?_; rintro e w10 ⟨he, hb⟩; rw [HBM.out] at he; subst he; have D1 := Lib.hid (And.intro (C9.out.1.below hb) (C9.out.2.below hb)); clear hb))
        go_ret
        exact ⟨rfl, E5.out.sx.ahead⟩
      · have HBX := Lib.hid hbx
        have HBY := Lib.hid hby
        clear hbx hby
        go_upto_region 19 with (go_at_call 24; refine (meet_any HT.out.sx HT.out.sy (by have := HX.out; omega) (by have := HX.out; omega)).mono ?_; rintro e w5 ⟨M, rfl, hS, hM, hl⟩; have M5 := Lib.hid (And.intro (HT.out.below hS.ahead) (And.intro hS (And.intro hM hl))); clear hS hM hl)
        have hcard := card_both HT.out.sx.can HT.out.sy.can M5.out.2.1.can HT.out.su.can M5.out.2.2.1 HX.out.1
        have cM := card_nonneg M5.out.2.1.can
        have cU := card_nonneg HT.out.su.can
        have cX := card_nonneg HT.out.sx.can
        have cY := card_nonneg HT.out.sy.can
        have dX := card_le HT.out.sx.can 0 (fun t ht => (HT.out.sx.can.2 t ht).1) (by omega)
        have dY := card_le HT.out.sy.can 0 (fun t ht => (HT.out.sy.can.2 t ht).1) (by omega)
        have wr1 : IntKind.u64.wrap (card M + card U) = card X + card Y := by rw [← hcard]; simp [IntKind.wrap, IntKind.bits, IntKind.signed]; omega
        have wr2 : IntKind.u64.wrap (card X + card Y) = card X + card Y := by simp [IntKind.wrap, IntKind.bits, IntKind.signed]; omega
        have hbm : hasB M n = (hasB X n && hasB Y n) := by rw [Bool.eq_iff_iff, Bool.and_eq_true, hasB_iff, hasB_iff, hasB_iff]; exact M5.out.2.2.1 n
        have hbu : hasB U n = (hasB X n || hasB Y n) := by rw [Bool.eq_iff_iff, Bool.or_eq_true, hasB_iff, hasB_iff, hasB_iff]; exact HX.out.1 n
        rw [HBX.out, HBY.out] at hbm hbu
        have HBM := Lib.hid hbm
        have HBU := Lib.hid hbu
        have hML : M.length ≤ 1000 := by have := M5.out.2.2.2; have := HX.out; omega
        have hXL : X.length ≤ 1000 := by have := HX.out; omega
        have hYL : Y.length ≤ 1000 := by have := HX.out; omega
        have hUL : U.length ≤ 1000 := by have := HX.out; omega
        obtain ⟨pm, hpm⟩ : ∃ pm, pm = wr.heap.size := ⟨_, rfl⟩
        rw [← hpm]
        have C5 := Lib.hid (And.intro M5.out.1 (show SetIs wr.heap.size wr w5 pm M by rw [hpm]; exact M5.out.2.1))
        clear hcard cM cU cX cY dX dY hbm hbu hpm M5 HT HX
        go_wp2_with (first
          | (go_at_call 17; have hh := C8; clear hh; refine (is_count C8.out.1.sy hYL).mono ?_; rintro e w9 ⟨rfl, hb⟩; have C9 := Lib.hid (And.intro (C8.out.1.below hb) (C8.out.2.below hb)); clear hb)
          | (go_at_call 17; have hh := C7; clear hh; refine (is_count C7.out.1.sx hXL).mono ?_; rintro e w8 ⟨rfl, hb⟩; have C8 := Lib.hid (And.intro (C7.out.1.below hb) (C7.out.2.below hb)); clear hb)
          | (go_at_call 17; have hh := C6; clear hh; refine (is_count C6.out.1.su hUL).mono ?_; rintro e w7 ⟨rfl, hb⟩; have C7 := Lib.hid (And.intro (C6.out.1.below hb) (C6.out.2.below hb)); clear hb)
          | (go_at_call 17; refine (is_count C5.out.2 hML).mono ?_; rintro e w6 ⟨rfl, hb⟩; have C6 := Lib.hid (And.intro (C5.out.1.below hb) (C5.out.2.below hb)); clear hb)
          | (go_at_call 21; have hh := E4; clear hh; refine (is_has E4.out.sy hYL).mono ?_; rintro e w15 ⟨he, hb⟩; rw [HBY.out] at he; subst he; have E5 := Lib.hid (E4.out.below hb); clear hb)
          | (go_at_call 21; have hh := E3; clear hh; refine (is_has E3.out.sx hXL).mono ?_; rintro e w14 ⟨he, hb⟩; rw [HBX.out] at he; subst he; have E4 := Lib.hid (E3.out.below hb); have E5 := E4; clear hb)
          | (go_at_call 21; have hh := E2; clear hh; refine (is_has E2.out.su hUL).mono ?_; rintro e w13 ⟨he, hb⟩; rw [HBU.out] at he; subst he; have E3 := Lib.hid (E2.out.below hb); clear hb)
          | (go_at_call 21; have hh := E1; clear hh; fail)
          | (go_at_call 21; have hh := D1; clear hh; refine (is_has D1.out.1.sx hXL).mono ?_; rintro e w11 ⟨he, hb⟩; rw [HBX.out] at he; subst he; have E2 := Lib.hid (D1.out.1.below hb); clear hb)
          | (go_at_call 21; refine (is_has C9.out.2 hML).mono ?_; rintro e w10 ⟨he, hb⟩; rw [HBM.out] at he; subst he; have D1 := Lib.hid (And.intro (C9.out.1.below hb) (C9.out.2.below hb)); clear hb))
        go_ret
        exact ⟨rfl, E5.out.sx.ahead⟩
      · have HBX := Lib.hid hbx
        have HBY := Lib.hid hby
        clear hbx hby
        go_upto_region 19 with (go_at_call 24; refine (meet_any HT.out.sx HT.out.sy (by have := HX.out; omega) (by have := HX.out; omega)).mono ?_; rintro e w5 ⟨M, rfl, hS, hM, hl⟩; have M5 := Lib.hid (And.intro (HT.out.below hS.ahead) (And.intro hS (And.intro hM hl))); clear hS hM hl)
        have hcard := card_both HT.out.sx.can HT.out.sy.can M5.out.2.1.can HT.out.su.can M5.out.2.2.1 HX.out.1
        have cM := card_nonneg M5.out.2.1.can
        have cU := card_nonneg HT.out.su.can
        have cX := card_nonneg HT.out.sx.can
        have cY := card_nonneg HT.out.sy.can
        have dX := card_le HT.out.sx.can 0 (fun t ht => (HT.out.sx.can.2 t ht).1) (by omega)
        have dY := card_le HT.out.sy.can 0 (fun t ht => (HT.out.sy.can.2 t ht).1) (by omega)
        have wr1 : IntKind.u64.wrap (card M + card U) = card X + card Y := by rw [← hcard]; simp [IntKind.wrap, IntKind.bits, IntKind.signed]; omega
        have wr2 : IntKind.u64.wrap (card X + card Y) = card X + card Y := by simp [IntKind.wrap, IntKind.bits, IntKind.signed]; omega
        have hbm : hasB M n = (hasB X n && hasB Y n) := by rw [Bool.eq_iff_iff, Bool.and_eq_true, hasB_iff, hasB_iff, hasB_iff]; exact M5.out.2.2.1 n
        have hbu : hasB U n = (hasB X n || hasB Y n) := by rw [Bool.eq_iff_iff, Bool.or_eq_true, hasB_iff, hasB_iff, hasB_iff]; exact HX.out.1 n
        rw [HBX.out, HBY.out] at hbm hbu
        have HBM := Lib.hid hbm
        have HBU := Lib.hid hbu
        have hML : M.length ≤ 1000 := by have := M5.out.2.2.2; have := HX.out; omega
        have hXL : X.length ≤ 1000 := by have := HX.out; omega
        have hYL : Y.length ≤ 1000 := by have := HX.out; omega
        have hUL : U.length ≤ 1000 := by have := HX.out; omega
        obtain ⟨pm, hpm⟩ : ∃ pm, pm = wr.heap.size := ⟨_, rfl⟩
        rw [← hpm]
        have C5 := Lib.hid (And.intro M5.out.1 (show SetIs wr.heap.size wr w5 pm M by rw [hpm]; exact M5.out.2.1))
        clear hcard cM cU cX cY dX dY hbm hbu hpm M5 HT HX
        go_wp2_with (first
          | (go_at_call 17; have hh := C8; clear hh; refine (is_count C8.out.1.sy hYL).mono ?_; rintro e w9 ⟨rfl, hb⟩; have C9 := Lib.hid (And.intro (C8.out.1.below hb) (C8.out.2.below hb)); clear hb)
          | (go_at_call 17; have hh := C7; clear hh; refine (is_count C7.out.1.sx hXL).mono ?_; rintro e w8 ⟨rfl, hb⟩; have C8 := Lib.hid (And.intro (C7.out.1.below hb) (C7.out.2.below hb)); clear hb)
          | (go_at_call 17; have hh := C6; clear hh; refine (is_count C6.out.1.su hUL).mono ?_; rintro e w7 ⟨rfl, hb⟩; have C7 := Lib.hid (And.intro (C6.out.1.below hb) (C6.out.2.below hb)); clear hb)
          | (go_at_call 17; refine (is_count C5.out.2 hML).mono ?_; rintro e w6 ⟨rfl, hb⟩; have C6 := Lib.hid (And.intro (C5.out.1.below hb) (C5.out.2.below hb)); clear hb)
          | (go_at_call 21; have hh := E4; clear hh; refine (is_has E4.out.sy hYL).mono ?_; rintro e w15 ⟨he, hb⟩; rw [HBY.out] at he; subst he; have E5 := Lib.hid (E4.out.below hb); clear hb)
          | (go_at_call 21; have hh := E3; clear hh; refine (is_has E3.out.sx hXL).mono ?_; rintro e w14 ⟨he, hb⟩; rw [HBX.out] at he; subst he; have E4 := Lib.hid (E3.out.below hb); have E5 := E4; clear hb)
          | (go_at_call 21; have hh := E2; clear hh; refine (is_has E2.out.su hUL).mono ?_; rintro e w13 ⟨he, hb⟩; rw [HBU.out] at he; subst he; have E3 := Lib.hid (E2.out.below hb); clear hb)
          | (go_at_call 21; have hh := E1; clear hh; refine (is_has E1.out.sy hYL).mono ?_; rintro e w12 ⟨he, hb⟩; rw [HBY.out] at he; subst he; have E2 := Lib.hid (E1.out.below hb); clear hb)
          | (go_at_call 21; have hh := D1; clear hh; refine (is_has D1.out.1.sx hXL).mono ?_; rintro e w11 ⟨he, hb⟩; rw [HBX.out] at he; subst he; have E1 := Lib.hid (D1.out.1.below hb); clear hb)
          | (go_at_call 21; refine (is_has C9.out.2 hML).mono ?_; rintro e w10 ⟨he, hb⟩; rw [HBM.out] at he; subst he; have D1 := Lib.hid (And.intro (C9.out.1.below hb) (C9.out.2.below hb)); clear hb))
        go_ret
        exact ⟨rfl, E5.out.sx.ahead⟩
      · have HBX := Lib.hid hbx
        have HBY := Lib.hid hby
        clear hbx hby
        go_upto_region 19 with (go_at_call 24; refine (meet_any HT.out.sx HT.out.sy (by have := HX.out; omega) (by have := HX.out; omega)).mono ?_; rintro e w5 ⟨M, rfl, hS, hM, hl⟩; have M5 := Lib.hid (And.intro (HT.out.below hS.ahead) (And.intro hS (And.intro hM hl))); clear hS hM hl)
        have hcard := card_both HT.out.sx.can HT.out.sy.can M5.out.2.1.can HT.out.su.can M5.out.2.2.1 HX.out.1
        have cM := card_nonneg M5.out.2.1.can
        have cU := card_nonneg HT.out.su.can
        have cX := card_nonneg HT.out.sx.can
        have cY := card_nonneg HT.out.sy.can
        have dX := card_le HT.out.sx.can 0 (fun t ht => (HT.out.sx.can.2 t ht).1) (by omega)
        have dY := card_le HT.out.sy.can 0 (fun t ht => (HT.out.sy.can.2 t ht).1) (by omega)
        have wr1 : IntKind.u64.wrap (card M + card U) = card X + card Y := by rw [← hcard]; simp [IntKind.wrap, IntKind.bits, IntKind.signed]; omega
        have wr2 : IntKind.u64.wrap (card X + card Y) = card X + card Y := by simp [IntKind.wrap, IntKind.bits, IntKind.signed]; omega
        have hbm : hasB M n = (hasB X n && hasB Y n) := by rw [Bool.eq_iff_iff, Bool.and_eq_true, hasB_iff, hasB_iff, hasB_iff]; exact M5.out.2.2.1 n
        have hbu : hasB U n = (hasB X n || hasB Y n) := by rw [Bool.eq_iff_iff, Bool.or_eq_true, hasB_iff, hasB_iff, hasB_iff]; exact HX.out.1 n
        rw [HBX.out, HBY.out] at hbm hbu
        have HBM := Lib.hid hbm
        have HBU := Lib.hid hbu
        have hML : M.length ≤ 1000 := by have := M5.out.2.2.2; have := HX.out; omega
        have hXL : X.length ≤ 1000 := by have := HX.out; omega
        have hYL : Y.length ≤ 1000 := by have := HX.out; omega
        have hUL : U.length ≤ 1000 := by have := HX.out; omega
        obtain ⟨pm, hpm⟩ : ∃ pm, pm = wr.heap.size := ⟨_, rfl⟩
        rw [← hpm]
        have C5 := Lib.hid (And.intro M5.out.1 (show SetIs wr.heap.size wr w5 pm M by rw [hpm]; exact M5.out.2.1))
        clear hcard cM cU cX cY dX dY hbm hbu hpm M5 HT HX
        go_wp2_with (first
          | (go_at_call 17; have hh := C8; clear hh; refine (is_count C8.out.1.sy hYL).mono ?_; rintro e w9 ⟨rfl, hb⟩; have C9 := Lib.hid (And.intro (C8.out.1.below hb) (C8.out.2.below hb)); clear hb)
          | (go_at_call 17; have hh := C7; clear hh; refine (is_count C7.out.1.sx hXL).mono ?_; rintro e w8 ⟨rfl, hb⟩; have C8 := Lib.hid (And.intro (C7.out.1.below hb) (C7.out.2.below hb)); clear hb)
          | (go_at_call 17; have hh := C6; clear hh; refine (is_count C6.out.1.su hUL).mono ?_; rintro e w7 ⟨rfl, hb⟩; have C7 := Lib.hid (And.intro (C6.out.1.below hb) (C6.out.2.below hb)); clear hb)
          | (go_at_call 17; refine (is_count C5.out.2 hML).mono ?_; rintro e w6 ⟨rfl, hb⟩; have C6 := Lib.hid (And.intro (C5.out.1.below hb) (C5.out.2.below hb)); clear hb)
          | (go_at_call 21; have hh := E4; clear hh; refine (is_has E4.out.sy hYL).mono ?_; rintro e w15 ⟨he, hb⟩; rw [HBY.out] at he; subst he; have E5 := Lib.hid (E4.out.below hb); clear hb)
          | (go_at_call 21; have hh := E3; clear hh; refine (is_has E3.out.sx hXL).mono ?_; rintro e w14 ⟨he, hb⟩; rw [HBX.out] at he; subst he; have E4 := Lib.hid (E3.out.below hb); have E5 := E4; clear hb)
          | (go_at_call 21; have hh := E2; clear hh; refine (is_has E2.out.su hUL).mono ?_; rintro e w13 ⟨he, hb⟩; rw [HBU.out] at he; subst he; have E3 := Lib.hid (E2.out.below hb); clear hb)
          | (go_at_call 21; have hh := E1; clear hh; refine (is_has E1.out.sy hYL).mono ?_; rintro e w12 ⟨he, hb⟩; rw [HBY.out] at he; subst he; have E2 := Lib.hid (E1.out.below hb); clear hb)
          | (go_at_call 21; have hh := D1; clear hh; refine (is_has D1.out.1.sx hXL).mono ?_; rintro e w11 ⟨he, hb⟩; rw [HBX.out] at he; subst he; have E1 := Lib.hid (D1.out.1.below hb); clear hb)
          | (go_at_call 21; refine (is_has C9.out.2 hML).mono ?_; rintro e w10 ⟨he, hb⟩; rw [HBM.out] at he; subst he; have D1 := Lib.hid (And.intro (C9.out.1.below hb) (C9.out.2.below hb)); clear hb))
        go_ret
        exact ⟨rfl, E5.out.sx.ahead⟩
end Go.Proofs.Ytgbhdccadelcfaa.Sp
