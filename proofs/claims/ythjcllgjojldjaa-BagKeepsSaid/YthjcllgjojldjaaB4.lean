/- bag: BagTurns, walked. -/
import Derived.Test.YthjcllgjojldjaaB3
namespace Go.Proofs.Ythjcllgjojldjaa.Bg
open Go Go.RowKit
theorem one_sl (ao : Option Addr) (n c : Nat) : ∀ u ∈ [Value.slice ao n c], u.oneCell' = true := by
  intro u hu
  simp at hu
  subst hu
  rfl
theorem rot_step {K : List (List Int)} {i : Nat} {l : List Int} (h : K[i]? = some l) : restL (K.drop i ++ K.take i) 0 ++ [l] = K.drop (i + 1) ++ K.take (i + 1) ∧ (K.drop i ++ K.take i)[0]? = some l := by
  obtain ⟨hlt, hget⟩ := List.getElem?_eq_some_iff.1 h
  have hd : K.drop i = l :: K.drop (i + 1) := by rw [List.drop_eq_getElem_cons hlt, hget]
  rw [hd]
  refine ⟨?_, rfl⟩
  rw [List.take_add_one, h]
  simp [restL]
set_option maxRecDepth 100000 in
set_option maxHeartbeats 4000000 in
theorem turns_any (v0 : Value) (L : List (List Int)) (w : World) (h : RdRow w v0 L) : Calls Try.prog 6 #[v0] w fun e w' => e = .returned (.bool true) ∧ Below w.heap.size w w' := by
  obtain ⟨so, cap0, rfl, hn, hx⟩ := h
  have HX := Lib.hid hx
  have HA := Lib.hid (awake_any w)
  obtain ⟨i0, hi0, hz0, hz1, hz2⟩ := info_parts info30
  have HI := Lib.hid (And.intro hi0 (And.intro hz0 (And.intro hz1 hz2)))
  clear hi0 hz0 hz1 hz2 hx
  generalize hnn : L.length = n at *
  have HN := Lib.hid hnn
  clear hnn
  have hn' : (n : Int) ≤ 9223372036854775807 := by unfold maxLen at hn; omega
  go_enter Try.func6, Try.ntmps6
  go_wp2_with fail
  refine HA.out.mono ?_
  rintro e w1 ⟨rfl, hb1⟩
  have HB1 := Lib.hid hb1
  clear hb1
  go_wp2_with fail
  refine (st_new w1).mono ?_
  rintro e w2 ⟨rfl, H2⟩
  have HS2 := Lib.hid H2
  clear H2
  go_wp2_with fail
  generalize hp : w1.heap.size = p at *
  go_loopw [4, 12] (fun o x wr => ∃ (i k cap : Nat) (ao : Option Addr), x = .int .i64 i ∧ o = .slice ao k cap ∧ i ≤ n ∧ k ≤ i ∧ k ≤ 60 ∧ Hid (∃ vs K, K.length = k ∧ WR w vs K ∧ Sw w1 p K (.slice ao k cap) vs wr)) (fun _ x _ => n + 1 - (intOf x).toNat)
  case atStart => exact ⟨0, 0, 0, none, rfl, rfl, Nat.zero_le _, Nat.le_refl _, Nat.zero_le _, Lib.hid ⟨[], [], rfl, WR.nil w, Sw.first HS2.out⟩⟩
  case round =>
    obtain ⟨i, k, cap, ao, rfl, rfl, hi, hki, hk60, HS⟩ := hrel
    by_cases hin : i < n
    · obtain ⟨l, hl⟩ : ∃ l, L[i]? = some l := ⟨_, List.getElem?_eq_getElem (by have := HN.out; omega)⟩
      obtain ⟨vs, K, hKk, hWR, hSw⟩ := HS.out
      have hbw : Below w.heap.size w wr := HB1.out.trans (hSw.below.mono HB1.out.size)
      obtain ⟨a, bo, c, rfl, a1, a2, a3, a4⟩ := HX.out i l hl
      have a2 := (hbw.cell (p := a.add i) (by rw [add_block]; exact a1)).trans a2
      have hi1 : i + 1 ≤ n := hin
      have HW := Lib.hid (And.intro hKk (And.intro hWR (And.intro hSw (And.intro hbw (And.intro a3 a4)))))
      clear hKk hWR hSw hbw a3 a4 hl a1
      obtain ⟨m, hm⟩ : ∃ m, l.length = m := ⟨_, rfl⟩
      rw [hm] at a2
      have HM := Lib.hid hm
      clear hm
      by_cases h60 : i < 60
      · have h60' : (i : Int) < 60 := by omega
        by_cases h0 : m = 0
        · subst h0
          go_wp2_with fail
          go_roundw
          case rel => exact ⟨i + 1, k, cap, ao, by go_num, rfl, hi1, by omega, hk60, HS⟩
          case measure => simp [intOf] <;> omega
        · have h0' : (0 : Int) < (m : Int) := by omega
          have h0'' : ((m : Int) == 0) = false := beq_eq_false_iff_ne.2 (by omega)
          by_cases h1000 : m < 1000
          · have h1' : (m : Int) < 1000 := by omega
            obtain ⟨ab, rfl, _⟩ := HW.out.2.2.2.2.1.here (by intro e; have := HM.out; subst e; simp at this; omega)
            have hk59 : k < 60 := by omega
            go_wp2_with fail
            refine (twin_any ab m c l _ (by omega) HM.out (by omega) (HW.out.2.2.2.2.1.on HW.out.2.2.2.1 (Nat.le_refl _))).mono ?_
            rintro e w3 ⟨g3, c3, rfl, ⟨ho3, hr3⟩, hb3⟩
            rw [HM.out]
            have HS3 := Lib.hid (HW.out.2.2.1.on hb3)
            have HR3 := Lib.hid hr3
            clear ho3 hr3 hb3
            go_wp2_with fail
            refine (sw_put HS3.out (by have := HW.out.1; omega) ⟨g3, 0, none⟩ m c3 l HM.out HR3.out (by omega) (by omega)).mono ?_
            rintro e w4 ⟨rfl, H4⟩
            have HS4 := Lib.hid H4
            have hvl : vs.length = k := by rw [HW.out.2.1.1, HW.out.1]
            have hO4 := Lib.hid (show (w4.alloc (.cells #[.slice (some ab) m c] 30)).ownsRow w1.heap.size 30 1 (.slice ao k cap) k vs from by have := H4.row.alloc (.cells #[.slice (some ab) m c] 30); rwa [hvl] at this)
            have z4 := H4.below.size
            have HVL := Lib.hid hvl
            clear H4 hvl
            go_wp2_with (at_builtin; refine wpList_append_lies _ rfl (.tmp 34) (.tmp 36) 27 rfl w1.heap.size 30 i0 _ 1 24 Try.underlying27 HI.out.1 HI.out.2.1 HI.out.2.2.1 HI.out.2.2.2 rfl (by decide) (.slice ao k cap) k vs rfl hO4.out ⟨w4.heap.size, 0, none⟩ 1 1 [.slice (some ab) m c] rfl rfl (news_one w4 _ 30) (one_sl _ _ _) (by decide) (by unfold maxLen; omega) (by omega) (by simp; omega) (w4.heap.size + 1) (by simp) ?_; intro g5 c5 w5 hown5 hgrow5 hgn5 _; have HO5 := Lib.hid (And.intro hown5 (And.intro hgrow5 hgn5)); clear hown5 hgrow5 hgn5)
            go_roundw
            case rel =>
              have hWR5 : WR w (vs ++ [.slice (some ab) m c]) (K ++ [l]) := by
                have := HW.out.2.1.push HW.out.2.2.2.2.1 HW.out.2.2.2.2.2 (c := c)
                rwa [HM.out] at this
              have hl5 : (vs ++ [Value.slice (some ab) m c]).length = k + 1 := by rw [List.length_append, HVL.out]; rfl
              exact ⟨i + 1, k + 1, c5, _, by go_num, rfl, hi1, by omega, by omega, Lib.hid ⟨_, _, by rw [List.length_append, HW.out.1]; rfl, hWR5, HS4.out.own ((Below.refl _ w4).alloc (Nat.le_refl _) _) (by rw [hl5]; exact HO5.out.1) HO5.out.2.1 (fun g hg => by
                simp [Value.ownBlock] at hg
                subst hg
                exact HO5.out.2.2.imp id (fun e => by omega))⟩⟩
            case measure => simp [intOf] <;> omega
          · have h1' : ¬ (m : Int) < 1000 := by omega
            go_wp2_with fail
            go_roundw
            case rel => exact ⟨i + 1, k, cap, _, by go_num, rfl, hi1, by omega, hk60, HS⟩
            case measure => simp [intOf] <;> omega
      · have h60' : ¬ (i : Int) < 60 := by omega
        go_wp2_with fail
        go_roundw
        case rel => exact ⟨i + 1, k, cap, _, by go_num, rfl, hi1, by omega, hk60, HS⟩
        case measure => simp [intOf] <;> omega
    · have hiE : n = i := by omega
      subst hiE
      clear hin hi
      obtain ⟨vs, K, hKk, hWR, hSw⟩ := HS.out
      have HW := Lib.hid (And.intro hKk (And.intro hWR hSw.below))
      have HS9 := Lib.hid hSw
      clear hKk hWR hSw HS
      have hk60' : (k : Int) ≤ 60 := by omega
      go_wp2_with fail
      go_loopw [41] (fun x wr => ∃ i : Nat, x = .int .i64 i ∧ i ≤ k ∧ Hid (Sw w1 p (K.drop i ++ K.take i) (.slice ao k cap) vs wr)) (fun x _ => k + 1 - (intOf x).toNat)
      case atStart => exact ⟨0, rfl, Nat.zero_le _, Lib.hid (by simpa using HS9.out)⟩
      case round =>
        obtain ⟨i, rfl, hi, HT⟩ := hrel
        by_cases hik : i < k
        · obtain ⟨l, hl⟩ : ∃ l, K[i]? = some l := ⟨_, List.getElem?_eq_getElem (by have := HW.out.1; omega)⟩
          obtain ⟨r1, r2⟩ := rot_step hl
          have hi1 : i + 1 ≤ k := hik
          have HR := Lib.hid (And.intro r1 r2)
          clear r1 r2 hl
          go_wp2_with fail
          refine (sw_hold HT.out 0 l HR.out.2).mono ?_
          rintro e w4 ⟨rfl, H4⟩
          rw [HR.out.1] at H4
          have H4 := Lib.hid H4
          go_wp2_with fail
          go_roundw
          case rel => exact ⟨i + 1, by go_num, hi1, H4⟩
          case measure => simp [intOf] <;> omega
        · have hiE : k = i := by omega
          subst hiE
          clear hik hi
          have HT : Hid (Sw w1 p K (.slice ao k cap) vs wr) := Lib.hid (by
            have := HT.out
            rwa [List.drop_of_length_le (by have := HW.out.1; omega), List.take_of_length_le (by have := HW.out.1; omega), List.nil_append] at this)
          go_wp2_with fail
          refine (sw_all HT.out).mono ?_
          rintro e w5 ⟨u, rfl, h5, H5⟩
          have hbw : Below w.heap.size w w5 := HB1.out.trans (H5.below.mono HB1.out.size)
          have HQ := Lib.hid (sameL_any u _ K K w5 h5 (HW.out.2.1.rd H5.row rfl hbw (by have := HW.out.2.1.1; have := HW.out.1; unfold maxLen; omega)))
          rw [decide_eq_true rfl] at HQ
          have HT := Lib.hid H5
          clear h5 H5 hbw
          go_wp2_with fail
          refine HQ.out.mono ?_
          rintro e w6 ⟨rfl, hb6⟩
          have HT := Lib.hid (HT.out.on hb6)
          clear hb6
          have n1 := st_hold_no HT.out.st (k : Int) (by have := HW.out.1; omega)
          have n2 := st_hold_no HT.out.st (-1) (by omega)
          go_wp2_with fail
          refine n1.mono ?_
          rintro e w7 ⟨rfl, rfl⟩
          go_wp2_with fail
          refine n2.mono ?_
          rintro e w8 ⟨rfl, rfl⟩
          go_wp2_with fail
          go_ret
          exact ⟨rfl, HB1.out.trans (HT.out.below.mono HB1.out.size)⟩
end Go.Proofs.Ythjcllgjojldjaa.Bg
