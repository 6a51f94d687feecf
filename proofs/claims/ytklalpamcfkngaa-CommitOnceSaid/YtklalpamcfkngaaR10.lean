/- commit: the document's Begin, walked up to the run's own row. -/
import Derived.Test.YtklalpamcfkngaaR9
namespace Go.Proofs.Ytklalpamcfkngaa.Cm
open Go Go.RowKit
theorem rbegin_few (qo : Option Addr) (t : TK) (ao : Option Addr) (c : Nat) (w : World) : Calls Try.prog 18 #[.pointer qo, .agg #[.int .u8 t.1, .int .u32 t.2.1, .int .u32 t.2.2], .slice ao 0 c] w fun e w' => e = .returned (.int .i64 1) ∧ Below w.heap.size w w' := by
  go_enter Try.func18, Try.ntmps18
  go_wp2
  go_ret
  exact ⟨rfl, (Below.refl _ w).alloc (Nat.le_refl _) _⟩
theorem rbegin_many (qo : Option Addr) (t : TK) (ao : Option Addr) (l c : Nat) (w : World) (hl : 4 < l) : Calls Try.prog 18 #[.pointer qo, .agg #[.int .u8 t.1, .int .u32 t.2.1, .int .u32 t.2.2], .slice ao l c] w fun e w' => e = .returned (.int .i64 1) ∧ Below w.heap.size w w' := by
  have e1 : decide ((l : Int) < 1) = false := by simp; omega
  go_enter Try.func18, Try.ntmps18
  go_wp2
  go_ret
  exact ⟨rfl, (Below.refl _ w).alloc (Nat.le_refl _) _⟩
def RisI (L : List Int) (W0 : World) (k : Nat) (v : Value) (wr : World) : Prop := wr.ownsRow W0.heap.size 5 1 v (risk L k).length (u8s (risk L k)) ∧ Below W0.heap.size W0 wr
set_option maxRecDepth 100000 in
set_option maxHeartbeats 8000000 in
theorem rbegin_high (qo : Option Addr) (t : TK) (ao : Option Addr) (l c : Nat) (L : List Int) (w : World) (hL : L.length = l) (l0 : 0 < l) (l4 : l ≤ 4) (hr : Rd w ao L) (hi : ∀ x ∈ L, 0 ≤ x ∧ x ≤ 255) (hh : ∃ x ∈ L, 3 < x) :
    Calls Try.prog 18 #[.pointer qo, .agg #[.int .u8 t.1, .int .u32 t.2.1, .int .u32 t.2.2], .slice ao l c] w fun e w' => e = .returned (.int .i64 1) ∧ Below w.heap.size w w' := by
  have HH := Lib.hid hh
  clear hh
  obtain ⟨i0, hi0, hz0, hz1, hz2⟩ := info_parts info5
  have HI := Lib.hid (And.intro hi0 (And.intro hz0 (And.intro hz1 hz2)))
  have HL := Lib.hid (And.intro hL (And.intro (hr.on ((Below.refl _ w).alloc (Nat.le_refl _) (.cells #[.int .u8 t.1, .int .u32 t.2.1, .int .u32 t.2.2] 33)) (Nat.le_refl _)) hi))
  have HB := Lib.hid ((Below.refl _ w).alloc (Nat.le_refl _) (.cells #[.int .u8 t.1, .int .u32 t.2.1, .int .u32 t.2.2] 33))
  have HX := Lib.hid (box3 w t)
  have e1 : decide ((l : Int) < 1) = false := by simp; omega
  clear hi0 hz0 hz1 hz2 hL hr hi
  go_enter Try.func18, Try.ntmps18
  go_wp2
  generalize w.alloc (.cells #[.int .u8 t.1, .int .u32 t.2.1, .int .u32 t.2.2] 33) = W0 at HL HB HX ⊢
  have H0 := Lib.hid (show RisI L W0 0 (.slice none 0 0) W0 from ⟨World.ownsRow_nil _ _ _ _, Below.refl _ _⟩)
  go_loopw [7, 8] (fun v u wr => ∃ k : Nat, k ≤ 4 ∧ u = .int .u8 k ∧ Hid (RisI L W0 k v wr)) (fun _ u _ => 4 - (intOf u).toNat)
  case atStart => exact ⟨0, by omega, rfl, H0⟩
  case round =>
    obtain ⟨k, hk, rfl, HR⟩ := hrel
    clear H0
    obtain ⟨lo, cap2, ev, _, _⟩ := own_slice HR.out.1
    subst ev
    by_cases hlt : k < 4
    · have hsuc := risk_succ L k
      have hlen := risk_len L k
      have HSU := Lib.hid hsuc
      obtain ⟨rl, hrl⟩ : ∃ rl, risk L k = rl := ⟨_, rfl⟩
      have HLL := Lib.hid hrl
      have HO := Lib.hid (show wr.ownsRow W0.heap.size 5 1 (.slice lo rl.length cap2) rl.length (u8s rl) from by have h2 := HR.out.1; rw [HLL.out] at h2; exact h2)
      have HWB := Lib.hid HR.out.2
      rw [hrl] at hlen ⊢
      clear hsuc hrl
      have HK0 := Lib.hid (show ∀ (j : Nat) (y : Int), j < 0 → L[j]? = some y → y ≠ (k : Int) from fun j y hj => by omega)
      go_wp2
      go_loop [7, 27] (fun x u => ∃ i : Nat, i ≤ l ∧ x = .slice lo rl.length cap2 ∧ u = .int .i64 i ∧ Hid (∀ (j : Nat) (y : Int), j < i → L[j]? = some y → y ≠ (k : Int))) (fun _ u => l - (intOf u).toNat)
      case atStart => exact ⟨0, by omega, rfl, rfl, HK0⟩
      case round =>
        obtain ⟨i, hil, rfl, rfl, HK⟩ := hrel
        clear HK0
        by_cases hil2 : i < l
        · obtain ⟨y, hy⟩ : ∃ y, L[i]? = some y := ⟨_, List.getElem?_eq_getElem (by have := HL.out.1; omega)⟩
          obtain ⟨b, off, rfl, _, ck⟩ := (HL.out.2.1.on HWB.out (Nat.le_refl _)) i y hy
          have HY := Lib.hid hy
          by_cases hyk : y = (k : Int)
          · have hb : (y == (k : Int)) = true := by simpa using hyk
            have HM := Lib.hid (show memF L k = true from by unfold memF; rw [List.contains_iff_mem, ← hyk]; exact List.mem_of_getElem? hy)
            clear hy hyk
            go_wp2_with (at_builtin; refine wpList_append_own _ rfl (.tmp 34) (.tmp 36) 34 rfl W0.heap.size 5 i0 _ 1 1 Try.underlying34 HI.out.1 HI.out.2.1 HI.out.2.2.1 HI.out.2.2.2 rfl (by decide) (.slice lo rl.length cap2) rl.length (u8s rl) rfl (HO.out.alloc _) ⟨wr.heap.size, 0, none⟩ 1 1 [.int .u8 k] rfl rfl (new1 _ wr 5) (one_u8 _) (by unfold maxLen; omega) (by omega) (by have := HWB.out.size; simp; omega) ?_; intro v3 w3 hown3 hgrow3 hnil3; have HG := Lib.hid (And.intro hown3 hgrow3); clear hown3 hgrow3 hnil3)
            go_roundw
            case measure => simp [intOf]; omega
            case rel =>
              refine ⟨k + 1, by omega, by go_num, Lib.hid ?_⟩
              have h := HSU.out
              rw [HLL.out, if_pos HM.out] at h
              refine ⟨?_, (HWB.out.alloc HWB.out.size (.cells #[.int .u8 k] 5)).grown HG.out.2 (by have := HWB.out.size; simp; omega) (fun q e => (own_obj HO.out e).1)⟩
              rw [h]
              have h6 := HG.out.1
              simpa [u8s] using h6
          · have hb : (y == (k : Int)) = false := by simpa using hyk
            have HN := Lib.hid (show ∀ (j : Nat) (z : Int), j < i + 1 → L[j]? = some z → z ≠ (k : Int) from fun j z hj hz => by
              by_cases e : j = i
              · subst e; rw [hy] at hz; cases hz; exact hyk
              · exact HK.out j z (by omega) hz)
            clear hy hyk
            go_wp2
            go_round
            case rel => exact ⟨i + 1, by omega, rfl, by go_num, HN⟩
            case measure => simp [intOf]; omega
        · have HM := Lib.hid (show memF L k = false from by
            cases hq : memF L k
            · rfl
            · unfold memF at hq
              rw [List.contains_iff_mem] at hq
              obtain ⟨j, hj⟩ := List.getElem?_of_mem hq
              have := (List.getElem?_eq_some_iff.1 hj).1
              exact absurd rfl (HK.out j _ (by have := HL.out.1; omega) hj))
          go_wp2
          go_roundw
          case measure => simp [intOf]; omega
          case rel =>
            refine ⟨k + 1, by omega, by go_num, Lib.hid ?_⟩
            have h := HSU.out
            rw [HLL.out, HM.out] at h
            refine ⟨?_, HWB.out⟩
            rw [h]
            simpa using HO.out
    · obtain rfl : k = 4 := by omega
      obtain ⟨R, hR⟩ : ∃ R, risk L 4 = R := ⟨_, rfl⟩
      have HRR := Lib.hid hR
      have HO := Lib.hid (show wr.ownsRow W0.heap.size 5 1 (.slice lo R.length cap2) R.length (u8s R) from by have h2 := HR.out.1; rw [HRR.out] at h2; exact h2)
      have HWB := Lib.hid HR.out.2
      have hrn : R.length ≤ 4 := by rw [← hR]; exact risk_len L 4
      rw [hR]
      clear hR
      go_wp2
      go_loop [41] (fun u => ∃ i : Nat, i ≤ l ∧ u = .int .i64 i ∧ Hid (∀ (j : Nat) (y : Int), j < i → L[j]? = some y → y ≤ 3)) (fun u => l - (intOf u).toNat)
      case atStart => exact ⟨0, by omega, rfl, Lib.hid (fun j y hj => by omega)⟩
      case round =>
        obtain ⟨i, hil, rfl, HK⟩ := hrel
        by_cases hil2 : i < l
        · obtain ⟨y, hy⟩ : ∃ y, L[i]? = some y := ⟨_, List.getElem?_eq_getElem (by have := HL.out.1; omega)⟩
          obtain ⟨b, off, rfl, _, ck⟩ := (HL.out.2.1.on HWB.out (Nat.le_refl _)) i y hy
          have HY := Lib.hid hy
          by_cases hy3 : 3 < y
          · have hb : decide (y > 3) = true := by simpa using hy3
            clear hy
            go_wp2
            go_ret
            exact ⟨rfl, HB.out.trans (HWB.out.mono HB.out.size)⟩
          · have hb : decide (y > 3) = false := by simp; omega
            have HN := Lib.hid (show ∀ (j : Nat) (z : Int), j < i + 1 → L[j]? = some z → z ≤ 3 from fun j z hj hz => by
              by_cases e : j = i
              · subst e; rw [hy] at hz; cases hz; omega
              · exact HK.out j z (by omega) hz)
            clear hy
            go_wp2
            go_round
            case rel => exact ⟨i + 1, by omega, by go_num, HN⟩
            case measure => simp [intOf]; omega
        · obtain rfl : i = l := by omega
          have HA := Lib.hid (show ∀ y ∈ L, y ≤ 3 from fun y hy => by
            obtain ⟨j, hj⟩ := List.getElem?_of_mem hy
            exact HK.out j y (by have := (List.getElem?_eq_some_iff.1 hj).1; rw [HL.out.1] at this; exact this) hj)
          exfalso
          obtain ⟨x, hx, h3⟩ := HH.out
          have := HA.out x hx
          omega
set_option maxRecDepth 100000 in
set_option maxHeartbeats 8000000 in
theorem rbegin_dup (qo : Option Addr) (t : TK) (ao : Option Addr) (l c : Nat) (L : List Int) (w : World) (hL : L.length = l) (l0 : 0 < l) (l4 : l ≤ 4) (hr : Rd w ao L) (hi : ∀ x ∈ L, 0 ≤ x ∧ x ≤ 255) (hh : ∀ x ∈ L, x ≤ 3) (hn : ¬ L.Nodup) :
    Calls Try.prog 18 #[.pointer qo, .agg #[.int .u8 t.1, .int .u32 t.2.1, .int .u32 t.2.2], .slice ao l c] w fun e w' => e = .returned (.int .i64 3) ∧ Below w.heap.size w w' := by
  have HH := Lib.hid (And.intro hh hn)
  clear hh hn
  obtain ⟨i0, hi0, hz0, hz1, hz2⟩ := info_parts info5
  have HI := Lib.hid (And.intro hi0 (And.intro hz0 (And.intro hz1 hz2)))
  have HL := Lib.hid (And.intro hL (And.intro (hr.on ((Below.refl _ w).alloc (Nat.le_refl _) (.cells #[.int .u8 t.1, .int .u32 t.2.1, .int .u32 t.2.2] 33)) (Nat.le_refl _)) hi))
  have HB := Lib.hid ((Below.refl _ w).alloc (Nat.le_refl _) (.cells #[.int .u8 t.1, .int .u32 t.2.1, .int .u32 t.2.2] 33))
  have HX := Lib.hid (box3 w t)
  have e1 : decide ((l : Int) < 1) = false := by simp; omega
  clear hi0 hz0 hz1 hz2 hL hr hi
  go_enter Try.func18, Try.ntmps18
  go_wp2
  generalize w.alloc (.cells #[.int .u8 t.1, .int .u32 t.2.1, .int .u32 t.2.2] 33) = W0 at HL HB HX ⊢
  have H0 := Lib.hid (show RisI L W0 0 (.slice none 0 0) W0 from ⟨World.ownsRow_nil _ _ _ _, Below.refl _ _⟩)
  go_loopw [7, 8] (fun v u wr => ∃ k : Nat, k ≤ 4 ∧ u = .int .u8 k ∧ Hid (RisI L W0 k v wr)) (fun _ u _ => 4 - (intOf u).toNat)
  case atStart => exact ⟨0, by omega, rfl, H0⟩
  case round =>
    obtain ⟨k, hk, rfl, HR⟩ := hrel
    clear H0
    obtain ⟨lo, cap2, ev, _, _⟩ := own_slice HR.out.1
    subst ev
    by_cases hlt : k < 4
    · have hsuc := risk_succ L k
      have hlen := risk_len L k
      have HSU := Lib.hid hsuc
      obtain ⟨rl, hrl⟩ : ∃ rl, risk L k = rl := ⟨_, rfl⟩
      have HLL := Lib.hid hrl
      have HO := Lib.hid (show wr.ownsRow W0.heap.size 5 1 (.slice lo rl.length cap2) rl.length (u8s rl) from by have h2 := HR.out.1; rw [HLL.out] at h2; exact h2)
      have HWB := Lib.hid HR.out.2
      rw [hrl] at hlen ⊢
      clear hsuc hrl
      have HK0 := Lib.hid (show ∀ (j : Nat) (y : Int), j < 0 → L[j]? = some y → y ≠ (k : Int) from fun j y hj => by omega)
      go_wp2
      go_loop [7, 27] (fun x u => ∃ i : Nat, i ≤ l ∧ x = .slice lo rl.length cap2 ∧ u = .int .i64 i ∧ Hid (∀ (j : Nat) (y : Int), j < i → L[j]? = some y → y ≠ (k : Int))) (fun _ u => l - (intOf u).toNat)
      case atStart => exact ⟨0, by omega, rfl, rfl, HK0⟩
      case round =>
        obtain ⟨i, hil, rfl, rfl, HK⟩ := hrel
        clear HK0
        by_cases hil2 : i < l
        · obtain ⟨y, hy⟩ : ∃ y, L[i]? = some y := ⟨_, List.getElem?_eq_getElem (by have := HL.out.1; omega)⟩
          obtain ⟨b, off, rfl, _, ck⟩ := (HL.out.2.1.on HWB.out (Nat.le_refl _)) i y hy
          have HY := Lib.hid hy
          by_cases hyk : y = (k : Int)
          · have hb : (y == (k : Int)) = true := by simpa using hyk
            have HM := Lib.hid (show memF L k = true from by unfold memF; rw [List.contains_iff_mem, ← hyk]; exact List.mem_of_getElem? hy)
            clear hy hyk
            go_wp2_with (at_builtin; refine wpList_append_own _ rfl (.tmp 34) (.tmp 36) 34 rfl W0.heap.size 5 i0 _ 1 1 Try.underlying34 HI.out.1 HI.out.2.1 HI.out.2.2.1 HI.out.2.2.2 rfl (by decide) (.slice lo rl.length cap2) rl.length (u8s rl) rfl (HO.out.alloc _) ⟨wr.heap.size, 0, none⟩ 1 1 [.int .u8 k] rfl rfl (new1 _ wr 5) (one_u8 _) (by unfold maxLen; omega) (by omega) (by have := HWB.out.size; simp; omega) ?_; intro v3 w3 hown3 hgrow3 hnil3; have HG := Lib.hid (And.intro hown3 hgrow3); clear hown3 hgrow3 hnil3)
            go_roundw
            case measure => simp [intOf]; omega
            case rel =>
              refine ⟨k + 1, by omega, by go_num, Lib.hid ?_⟩
              have h := HSU.out
              rw [HLL.out, if_pos HM.out] at h
              refine ⟨?_, (HWB.out.alloc HWB.out.size (.cells #[.int .u8 k] 5)).grown HG.out.2 (by have := HWB.out.size; simp; omega) (fun q e => (own_obj HO.out e).1)⟩
              rw [h]
              have h6 := HG.out.1
              simpa [u8s] using h6
          · have hb : (y == (k : Int)) = false := by simpa using hyk
            have HN := Lib.hid (show ∀ (j : Nat) (z : Int), j < i + 1 → L[j]? = some z → z ≠ (k : Int) from fun j z hj hz => by
              by_cases e : j = i
              · subst e; rw [hy] at hz; cases hz; exact hyk
              · exact HK.out j z (by omega) hz)
            clear hy hyk
            go_wp2
            go_round
            case rel => exact ⟨i + 1, by omega, rfl, by go_num, HN⟩
            case measure => simp [intOf]; omega
        · have HM := Lib.hid (show memF L k = false from by
            cases hq : memF L k
            · rfl
            · unfold memF at hq
              rw [List.contains_iff_mem] at hq
              obtain ⟨j, hj⟩ := List.getElem?_of_mem hq
              have := (List.getElem?_eq_some_iff.1 hj).1
              exact absurd rfl (HK.out j _ (by have := HL.out.1; omega) hj))
          go_wp2
          go_roundw
          case measure => simp [intOf]; omega
          case rel =>
            refine ⟨k + 1, by omega, by go_num, Lib.hid ?_⟩
            have h := HSU.out
            rw [HLL.out, HM.out] at h
            refine ⟨?_, HWB.out⟩
            rw [h]
            simpa using HO.out
    · obtain rfl : k = 4 := by omega
      obtain ⟨R, hR⟩ : ∃ R, risk L 4 = R := ⟨_, rfl⟩
      have HRR := Lib.hid hR
      have HO := Lib.hid (show wr.ownsRow W0.heap.size 5 1 (.slice lo R.length cap2) R.length (u8s R) from by have h2 := HR.out.1; rw [HRR.out] at h2; exact h2)
      have HWB := Lib.hid HR.out.2
      have hrn : R.length ≤ 4 := by rw [← hR]; exact risk_len L 4
      rw [hR]
      clear hR
      go_wp2
      go_loop [41] (fun u => ∃ i : Nat, i ≤ l ∧ u = .int .i64 i ∧ Hid (∀ (j : Nat) (y : Int), j < i → L[j]? = some y → y ≤ 3)) (fun u => l - (intOf u).toNat)
      case atStart => exact ⟨0, by omega, rfl, Lib.hid (fun j y hj => by omega)⟩
      case round =>
        obtain ⟨i, hil, rfl, HK⟩ := hrel
        by_cases hil2 : i < l
        · obtain ⟨y, hy⟩ : ∃ y, L[i]? = some y := ⟨_, List.getElem?_eq_getElem (by have := HL.out.1; omega)⟩
          obtain ⟨b, off, rfl, _, ck⟩ := (HL.out.2.1.on HWB.out (Nat.le_refl _)) i y hy
          have HY := Lib.hid hy
          by_cases hy3 : 3 < y
          · have hb : decide (y > 3) = true := by simpa using hy3
            clear hy
            exfalso
            have := HH.out.1 y (List.mem_of_getElem? HY.out)
            omega
          · have hb : decide (y > 3) = false := by simp; omega
            have HN := Lib.hid (show ∀ (j : Nat) (z : Int), j < i + 1 → L[j]? = some z → z ≤ 3 from fun j z hj hz => by
              by_cases e : j = i
              · subst e; rw [hy] at hz; cases hz; omega
              · exact HK.out j z (by omega) hz)
            clear hy
            go_wp2
            go_round
            case rel => exact ⟨i + 1, by omega, by go_num, HN⟩
            case measure => simp [intOf]; omega
        · obtain rfl : i = l := by omega
          have HA := Lib.hid (show ∀ y ∈ L, y ≤ 3 from fun y hy => by
            obtain ⟨j, hj⟩ := List.getElem?_of_mem hy
            exact HK.out j y (by have := (List.getElem?_eq_some_iff.1 hj).1; rw [HL.out.1] at this; exact this) hj)
          have hlt2 : R.length < i := by
            have h1 := cnt_mem L (fun x hx => ⟨(HL.out.2.2 x hx).1, HA.out x hx⟩)
            have h2 := risk_cnt L
            rw [HRR.out] at h2
            rw [HL.out.1] at h1
            have : cnt4 (memF L) ≠ i := fun e => HH.out.2 (h1.2.1 e)
            omega
          have hb : decide ((R.length : Int) < (i : Int)) = true := by simp; omega
          go_wp2
          go_ret
          exact ⟨rfl, HB.out.trans (HWB.out.mono HB.out.size)⟩
set_option maxRecDepth 100000 in
set_option maxHeartbeats 8000000 in
theorem rbegin_nil (t : TK) (ao : Option Addr) (l c : Nat) (L : List Int) (w : World) (hL : L.length = l) (l0 : 0 < l) (l4 : l ≤ 4) (hr : Rd w ao L) (hi : ∀ x ∈ L, 0 ≤ x ∧ x ≤ 255) (hh : ∀ x ∈ L, x ≤ 3) (hn : L.Nodup) :
    Calls Try.prog 18 #[.pointer none, .agg #[.int .u8 t.1, .int .u32 t.2.1, .int .u32 t.2.2], .slice ao l c] w fun e w' => e = .returned (.int .i64 6) ∧ Below w.heap.size w w' := by
  have HH := Lib.hid (And.intro hh hn)
  clear hh hn
  obtain ⟨i0, hi0, hz0, hz1, hz2⟩ := info_parts info5
  have HI := Lib.hid (And.intro hi0 (And.intro hz0 (And.intro hz1 hz2)))
  have HL := Lib.hid (And.intro hL (And.intro (hr.on ((Below.refl _ w).alloc (Nat.le_refl _) (.cells #[.int .u8 t.1, .int .u32 t.2.1, .int .u32 t.2.2] 33)) (Nat.le_refl _)) hi))
  have HB := Lib.hid ((Below.refl _ w).alloc (Nat.le_refl _) (.cells #[.int .u8 t.1, .int .u32 t.2.1, .int .u32 t.2.2] 33))
  have HX := Lib.hid (box3 w t)
  have e1 : decide ((l : Int) < 1) = false := by simp; omega
  clear hi0 hz0 hz1 hz2 hL hr hi
  go_enter Try.func18, Try.ntmps18
  go_wp2
  generalize w.alloc (.cells #[.int .u8 t.1, .int .u32 t.2.1, .int .u32 t.2.2] 33) = W0 at HL HB HX ⊢
  have H0 := Lib.hid (show RisI L W0 0 (.slice none 0 0) W0 from ⟨World.ownsRow_nil _ _ _ _, Below.refl _ _⟩)
  go_loopw [7, 8] (fun v u wr => ∃ k : Nat, k ≤ 4 ∧ u = .int .u8 k ∧ Hid (RisI L W0 k v wr)) (fun _ u _ => 4 - (intOf u).toNat)
  case atStart => exact ⟨0, by omega, rfl, H0⟩
  case round =>
    obtain ⟨k, hk, rfl, HR⟩ := hrel
    clear H0
    obtain ⟨lo, cap2, ev, _, _⟩ := own_slice HR.out.1
    subst ev
    by_cases hlt : k < 4
    · have hsuc := risk_succ L k
      have hlen := risk_len L k
      have HSU := Lib.hid hsuc
      obtain ⟨rl, hrl⟩ : ∃ rl, risk L k = rl := ⟨_, rfl⟩
      have HLL := Lib.hid hrl
      have HO := Lib.hid (show wr.ownsRow W0.heap.size 5 1 (.slice lo rl.length cap2) rl.length (u8s rl) from by have h2 := HR.out.1; rw [HLL.out] at h2; exact h2)
      have HWB := Lib.hid HR.out.2
      rw [hrl] at hlen ⊢
      clear hsuc hrl
      have HK0 := Lib.hid (show ∀ (j : Nat) (y : Int), j < 0 → L[j]? = some y → y ≠ (k : Int) from fun j y hj => by omega)
      go_wp2
      go_loop [7, 27] (fun x u => ∃ i : Nat, i ≤ l ∧ x = .slice lo rl.length cap2 ∧ u = .int .i64 i ∧ Hid (∀ (j : Nat) (y : Int), j < i → L[j]? = some y → y ≠ (k : Int))) (fun _ u => l - (intOf u).toNat)
      case atStart => exact ⟨0, by omega, rfl, rfl, HK0⟩
      case round =>
        obtain ⟨i, hil, rfl, rfl, HK⟩ := hrel
        clear HK0
        by_cases hil2 : i < l
        · obtain ⟨y, hy⟩ : ∃ y, L[i]? = some y := ⟨_, List.getElem?_eq_getElem (by have := HL.out.1; omega)⟩
          obtain ⟨b, off, rfl, _, ck⟩ := (HL.out.2.1.on HWB.out (Nat.le_refl _)) i y hy
          have HY := Lib.hid hy
          by_cases hyk : y = (k : Int)
          · have hb : (y == (k : Int)) = true := by simpa using hyk
            have HM := Lib.hid (show memF L k = true from by unfold memF; rw [List.contains_iff_mem, ← hyk]; exact List.mem_of_getElem? hy)
            clear hy hyk
            go_wp2_with (at_builtin; refine wpList_append_own _ rfl (.tmp 34) (.tmp 36) 34 rfl W0.heap.size 5 i0 _ 1 1 Try.underlying34 HI.out.1 HI.out.2.1 HI.out.2.2.1 HI.out.2.2.2 rfl (by decide) (.slice lo rl.length cap2) rl.length (u8s rl) rfl (HO.out.alloc _) ⟨wr.heap.size, 0, none⟩ 1 1 [.int .u8 k] rfl rfl (new1 _ wr 5) (one_u8 _) (by unfold maxLen; omega) (by omega) (by have := HWB.out.size; simp; omega) ?_; intro v3 w3 hown3 hgrow3 hnil3; have HG := Lib.hid (And.intro hown3 hgrow3); clear hown3 hgrow3 hnil3)
            go_roundw
            case measure => simp [intOf]; omega
            case rel =>
              refine ⟨k + 1, by omega, by go_num, Lib.hid ?_⟩
              have h := HSU.out
              rw [HLL.out, if_pos HM.out] at h
              refine ⟨?_, (HWB.out.alloc HWB.out.size (.cells #[.int .u8 k] 5)).grown HG.out.2 (by have := HWB.out.size; simp; omega) (fun q e => (own_obj HO.out e).1)⟩
              rw [h]
              have h6 := HG.out.1
              simpa [u8s] using h6
          · have hb : (y == (k : Int)) = false := by simpa using hyk
            have HN := Lib.hid (show ∀ (j : Nat) (z : Int), j < i + 1 → L[j]? = some z → z ≠ (k : Int) from fun j z hj hz => by
              by_cases e : j = i
              · subst e; rw [hy] at hz; cases hz; exact hyk
              · exact HK.out j z (by omega) hz)
            clear hy hyk
            go_wp2
            go_round
            case rel => exact ⟨i + 1, by omega, rfl, by go_num, HN⟩
            case measure => simp [intOf]; omega
        · have HM := Lib.hid (show memF L k = false from by
            cases hq : memF L k
            · rfl
            · unfold memF at hq
              rw [List.contains_iff_mem] at hq
              obtain ⟨j, hj⟩ := List.getElem?_of_mem hq
              have := (List.getElem?_eq_some_iff.1 hj).1
              exact absurd rfl (HK.out j _ (by have := HL.out.1; omega) hj))
          go_wp2
          go_roundw
          case measure => simp [intOf]; omega
          case rel =>
            refine ⟨k + 1, by omega, by go_num, Lib.hid ?_⟩
            have h := HSU.out
            rw [HLL.out, HM.out] at h
            refine ⟨?_, HWB.out⟩
            rw [h]
            simpa using HO.out
    · obtain rfl : k = 4 := by omega
      obtain ⟨R, hR⟩ : ∃ R, risk L 4 = R := ⟨_, rfl⟩
      have HRR := Lib.hid hR
      have HO := Lib.hid (show wr.ownsRow W0.heap.size 5 1 (.slice lo R.length cap2) R.length (u8s R) from by have h2 := HR.out.1; rw [HRR.out] at h2; exact h2)
      have HWB := Lib.hid HR.out.2
      have hrn : R.length ≤ 4 := by rw [← hR]; exact risk_len L 4
      rw [hR]
      clear hR
      go_wp2
      go_loop [41] (fun u => ∃ i : Nat, i ≤ l ∧ u = .int .i64 i ∧ Hid (∀ (j : Nat) (y : Int), j < i → L[j]? = some y → y ≤ 3)) (fun u => l - (intOf u).toNat)
      case atStart => exact ⟨0, by omega, rfl, Lib.hid (fun j y hj => by omega)⟩
      case round =>
        obtain ⟨i, hil, rfl, HK⟩ := hrel
        by_cases hil2 : i < l
        · obtain ⟨y, hy⟩ : ∃ y, L[i]? = some y := ⟨_, List.getElem?_eq_getElem (by have := HL.out.1; omega)⟩
          obtain ⟨b, off, rfl, _, ck⟩ := (HL.out.2.1.on HWB.out (Nat.le_refl _)) i y hy
          have HY := Lib.hid hy
          by_cases hy3 : 3 < y
          · have hb : decide (y > 3) = true := by simpa using hy3
            clear hy
            exfalso
            have := HH.out.1 y (List.mem_of_getElem? HY.out)
            omega
          · have hb : decide (y > 3) = false := by simp; omega
            have HN := Lib.hid (show ∀ (j : Nat) (z : Int), j < i + 1 → L[j]? = some z → z ≤ 3 from fun j z hj hz => by
              by_cases e : j = i
              · subst e; rw [hy] at hz; cases hz; omega
              · exact HK.out j z (by omega) hz)
            clear hy
            go_wp2
            go_round
            case rel => exact ⟨i + 1, by omega, by go_num, HN⟩
            case measure => simp [intOf]; omega
        · obtain rfl : i = l := by omega
          have HA := Lib.hid (show ∀ y ∈ L, y ≤ 3 from fun y hy => by
            obtain ⟨j, hj⟩ := List.getElem?_of_mem hy
            exact HK.out j y (by have := (List.getElem?_eq_some_iff.1 hj).1; rw [HL.out.1] at this; exact this) hj)
          have hlt2 : R.length = i := by
            have h1 := cnt_mem L (fun x hx => ⟨(HL.out.2.2 x hx).1, HA.out x hx⟩)
            have h2 := risk_cnt L
            rw [HRR.out] at h2
            rw [HL.out.1] at h1
            have := h1.2.2 HH.out.2
            omega
          have hge : i ≤ R.length := by omega
          have HLT := Lib.hid hlt2
          clear hlt2
          go_wp2
          go_ret
          exact ⟨rfl, HB.out.trans (HWB.out.mono HB.out.size)⟩
set_option maxRecDepth 100000 in
set_option maxHeartbeats 8000000 in
theorem rbegin_again (t : TK) (ao : Option Addr) (l c : Nat) (L : List Int) (w : World) {B q : Nat} {F : Nat → Prop} {rv tv : Value} {CL : List RC} {TT : TL} (h : RefAt w B F q rv tv CL TT)  (hL : L.length = l) (l0 : 0 < l) (l4 : l ≤ 4) (hr : Rd w ao L) (hi : ∀ x ∈ L, 0 ≤ x ∧ x ≤ 255) (hh : ∀ x ∈ L, x ≤ 3) (hn : L.Nodup) {n : Nat} {cc : RC} (hc : CL[n]? = some cc) (hct : cc.t = t) (hcl : CL.length ≤ 1000000) :
    Calls Try.prog 18 #[.pointer (some ⟨q, 0, none⟩), .agg #[.int .u8 t.1, .int .u32 t.2.1, .int .u32 t.2.2], .slice ao l c] w fun e w' => e = .returned (.int .i64 7) ∧ Below w.heap.size w w' := by
  have HH := Lib.hid (And.intro hh hn)
  have HRF := Lib.hid (And.intro (h.below ((Below.refl _ w).alloc (Nat.le_refl _) (.cells #[.int .u8 t.1, .int .u32 t.2.1, .int .u32 t.2.2] 33))) (And.intro hc hct))
  clear hh hn h hc hct
  obtain ⟨i0, hi0, hz0, hz1, hz2⟩ := info_parts info5
  have HI := Lib.hid (And.intro hi0 (And.intro hz0 (And.intro hz1 hz2)))
  have HL := Lib.hid (And.intro hL (And.intro (hr.on ((Below.refl _ w).alloc (Nat.le_refl _) (.cells #[.int .u8 t.1, .int .u32 t.2.1, .int .u32 t.2.2] 33)) (Nat.le_refl _)) hi))
  have HB := Lib.hid ((Below.refl _ w).alloc (Nat.le_refl _) (.cells #[.int .u8 t.1, .int .u32 t.2.1, .int .u32 t.2.2] 33))
  have HX := Lib.hid (box3 w t)
  have e1 : decide ((l : Int) < 1) = false := by simp; omega
  clear hi0 hz0 hz1 hz2 hL hr hi
  go_enter Try.func18, Try.ntmps18
  go_wp2
  generalize w.alloc (.cells #[.int .u8 t.1, .int .u32 t.2.1, .int .u32 t.2.2] 33) = W0 at HL HB HX HRF ⊢
  have H0 := Lib.hid (show RisI L W0 0 (.slice none 0 0) W0 from ⟨World.ownsRow_nil _ _ _ _, Below.refl _ _⟩)
  go_loopw [7, 8] (fun v u wr => ∃ k : Nat, k ≤ 4 ∧ u = .int .u8 k ∧ Hid (RisI L W0 k v wr)) (fun _ u _ => 4 - (intOf u).toNat)
  case atStart => exact ⟨0, by omega, rfl, H0⟩
  case round =>
    obtain ⟨k, hk, rfl, HR⟩ := hrel
    clear H0
    obtain ⟨lo, cap2, ev, _, _⟩ := own_slice HR.out.1
    subst ev
    by_cases hlt : k < 4
    · have hsuc := risk_succ L k
      have hlen := risk_len L k
      have HSU := Lib.hid hsuc
      obtain ⟨rl, hrl⟩ : ∃ rl, risk L k = rl := ⟨_, rfl⟩
      have HLL := Lib.hid hrl
      have HO := Lib.hid (show wr.ownsRow W0.heap.size 5 1 (.slice lo rl.length cap2) rl.length (u8s rl) from by have h2 := HR.out.1; rw [HLL.out] at h2; exact h2)
      have HWB := Lib.hid HR.out.2
      rw [hrl] at hlen ⊢
      clear hsuc hrl
      have HK0 := Lib.hid (show ∀ (j : Nat) (y : Int), j < 0 → L[j]? = some y → y ≠ (k : Int) from fun j y hj => by omega)
      go_wp2
      go_loop [7, 27] (fun x u => ∃ i : Nat, i ≤ l ∧ x = .slice lo rl.length cap2 ∧ u = .int .i64 i ∧ Hid (∀ (j : Nat) (y : Int), j < i → L[j]? = some y → y ≠ (k : Int))) (fun _ u => l - (intOf u).toNat)
      case atStart => exact ⟨0, by omega, rfl, rfl, HK0⟩
      case round =>
        obtain ⟨i, hil, rfl, rfl, HK⟩ := hrel
        clear HK0
        by_cases hil2 : i < l
        · obtain ⟨y, hy⟩ : ∃ y, L[i]? = some y := ⟨_, List.getElem?_eq_getElem (by have := HL.out.1; omega)⟩
          obtain ⟨b, off, rfl, _, ck⟩ := (HL.out.2.1.on HWB.out (Nat.le_refl _)) i y hy
          have HY := Lib.hid hy
          by_cases hyk : y = (k : Int)
          · have hb : (y == (k : Int)) = true := by simpa using hyk
            have HM := Lib.hid (show memF L k = true from by unfold memF; rw [List.contains_iff_mem, ← hyk]; exact List.mem_of_getElem? hy)
            clear hy hyk
            go_wp2_with (at_builtin; refine wpList_append_own _ rfl (.tmp 34) (.tmp 36) 34 rfl W0.heap.size 5 i0 _ 1 1 Try.underlying34 HI.out.1 HI.out.2.1 HI.out.2.2.1 HI.out.2.2.2 rfl (by decide) (.slice lo rl.length cap2) rl.length (u8s rl) rfl (HO.out.alloc _) ⟨wr.heap.size, 0, none⟩ 1 1 [.int .u8 k] rfl rfl (new1 _ wr 5) (one_u8 _) (by unfold maxLen; omega) (by omega) (by have := HWB.out.size; simp; omega) ?_; intro v3 w3 hown3 hgrow3 hnil3; have HG := Lib.hid (And.intro hown3 hgrow3); clear hown3 hgrow3 hnil3)
            go_roundw
            case measure => simp [intOf]; omega
            case rel =>
              refine ⟨k + 1, by omega, by go_num, Lib.hid ?_⟩
              have h := HSU.out
              rw [HLL.out, if_pos HM.out] at h
              refine ⟨?_, (HWB.out.alloc HWB.out.size (.cells #[.int .u8 k] 5)).grown HG.out.2 (by have := HWB.out.size; simp; omega) (fun q e => (own_obj HO.out e).1)⟩
              rw [h]
              have h6 := HG.out.1
              simpa [u8s] using h6
          · have hb : (y == (k : Int)) = false := by simpa using hyk
            have HN := Lib.hid (show ∀ (j : Nat) (z : Int), j < i + 1 → L[j]? = some z → z ≠ (k : Int) from fun j z hj hz => by
              by_cases e : j = i
              · subst e; rw [hy] at hz; cases hz; exact hyk
              · exact HK.out j z (by omega) hz)
            clear hy hyk
            go_wp2
            go_round
            case rel => exact ⟨i + 1, by omega, rfl, by go_num, HN⟩
            case measure => simp [intOf]; omega
        · have HM := Lib.hid (show memF L k = false from by
            cases hq : memF L k
            · rfl
            · unfold memF at hq
              rw [List.contains_iff_mem] at hq
              obtain ⟨j, hj⟩ := List.getElem?_of_mem hq
              have := (List.getElem?_eq_some_iff.1 hj).1
              exact absurd rfl (HK.out j _ (by have := HL.out.1; omega) hj))
          go_wp2
          go_roundw
          case measure => simp [intOf]; omega
          case rel =>
            refine ⟨k + 1, by omega, by go_num, Lib.hid ?_⟩
            have h := HSU.out
            rw [HLL.out, HM.out] at h
            refine ⟨?_, HWB.out⟩
            rw [h]
            simpa using HO.out
    · obtain rfl : k = 4 := by omega
      obtain ⟨R, hR⟩ : ∃ R, risk L 4 = R := ⟨_, rfl⟩
      have HRR := Lib.hid hR
      have HO := Lib.hid (show wr.ownsRow W0.heap.size 5 1 (.slice lo R.length cap2) R.length (u8s R) from by have h2 := HR.out.1; rw [HRR.out] at h2; exact h2)
      have HWB := Lib.hid HR.out.2
      have hrn : R.length ≤ 4 := by rw [← hR]; exact risk_len L 4
      rw [hR]
      clear hR
      go_wp2
      go_loop [41] (fun u => ∃ i : Nat, i ≤ l ∧ u = .int .i64 i ∧ Hid (∀ (j : Nat) (y : Int), j < i → L[j]? = some y → y ≤ 3)) (fun u => l - (intOf u).toNat)
      case atStart => exact ⟨0, by omega, rfl, Lib.hid (fun j y hj => by omega)⟩
      case round =>
        obtain ⟨i, hil, rfl, HK⟩ := hrel
        by_cases hil2 : i < l
        · obtain ⟨y, hy⟩ : ∃ y, L[i]? = some y := ⟨_, List.getElem?_eq_getElem (by have := HL.out.1; omega)⟩
          obtain ⟨b, off, rfl, _, ck⟩ := (HL.out.2.1.on HWB.out (Nat.le_refl _)) i y hy
          have HY := Lib.hid hy
          by_cases hy3 : 3 < y
          · have hb : decide (y > 3) = true := by simpa using hy3
            clear hy
            exfalso
            have := HH.out.1 y (List.mem_of_getElem? HY.out)
            omega
          · have hb : decide (y > 3) = false := by simp; omega
            have HN := Lib.hid (show ∀ (j : Nat) (z : Int), j < i + 1 → L[j]? = some z → z ≤ 3 from fun j z hj hz => by
              by_cases e : j = i
              · subst e; rw [hy] at hz; cases hz; omega
              · exact HK.out j z (by omega) hz)
            clear hy
            go_wp2
            go_round
            case rel => exact ⟨i + 1, by omega, by go_num, HN⟩
            case measure => simp [intOf]; omega
        · obtain rfl : i = l := by omega
          have HA := Lib.hid (show ∀ y ∈ L, y ≤ 3 from fun y hy => by
            obtain ⟨j, hj⟩ := List.getElem?_of_mem hy
            exact HK.out j y (by have := (List.getElem?_eq_some_iff.1 hj).1; rw [HL.out.1] at this; exact this) hj)
          have hlt2 : R.length = i := by
            have h1 := cnt_mem L (fun x hx => ⟨(HL.out.2.2 x hx).1, HA.out x hx⟩)
            have h2 := risk_cnt L
            rw [HRR.out] at h2
            rw [HL.out.1] at h1
            have := h1.2.2 HH.out.2
            omega
          have hge : i ≤ R.length := by omega
          have HLT := Lib.hid hlt2
          clear hlt2
          obtain ⟨b0, b1, b2⟩ := Below.cell3 HWB.out (World.block_lt_of_cell? W0 ⟨w.heap.size, 0, none⟩ HX.out.1) HX.out
          have HRF2 := Lib.hid (HRF.out.1.below HWB.out)
          go_wp2_with (go_at_call 38; refine (run_hit HRF2.out HRF.out.2.1 HRF.out.2.2 hcl).mono ?_; rintro e w3 ⟨rfl, hb3⟩; have H3 := Lib.hid (HB.out.trans ((HWB.out.trans (hb3.mono HWB.out.size)).mono HB.out.size)); clear hb3)
          go_ret
          exact ⟨rfl, H3.out⟩
end Go.Proofs.Ytklalpamcfkngaa.Cm
