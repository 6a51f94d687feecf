/- bag: BagFull, walked. -/
import Derived.Test.YthjcllgjojldjaaB1
namespace Go.Proofs.Ythjcllgjojldjaa.Bg
open Go Go.RowKit
theorem restL_len {L : List (List Int)} {i : Nat} (h : i < L.length) : (restL L i).length = L.length - 1 := by
  unfold restL
  simp
  omega
set_option maxHeartbeats 2000000 in
set_option maxRecDepth 100000 in
theorem full_any (ao : Option Addr) (n c q : Nat) (l : List Int) (w : World) (hl : l.length = n) (hr : Rd w ao l) (_hn : n ≤ maxLen) (hq : q ≤ 65535) :
    Calls Try.prog 4 #[.slice ao n c, .int .u16 q] w fun e w' => e = .returned (.bool true) ∧ Below w.heap.size w w' := by
  have HA := Lib.hid (awake_any w)
  by_cases h0 : n = 0
  · subst h0
    clear hl hr
    go_enter Try.func4, Try.ntmps4
    go_wp2_with fail
    refine HA.out.mono ?_
    rintro e w1 ⟨rfl, hb⟩
    go_wp2_with fail
    go_ret
    exact ⟨rfl, hb⟩
  · have e0 : ((n : Int) == 0) = false := beq_eq_false_iff_ne.2 (by omega)
    by_cases h1 : 100 < n
    · have h2 : (100 : Int) < (n : Int) := by omega
      clear hl hr
      go_enter Try.func4, Try.ntmps4
      go_wp2_with fail
      refine HA.out.mono ?_
      rintro e w1 ⟨rfl, hb⟩
      go_wp2_with fail
      go_ret
      exact ⟨rfl, hb⟩
    · have h2 : ¬ (100 : Int) < (n : Int) := by omega
      obtain ⟨a, rfl, _⟩ := hr.here (by intro e; subst e; simp at hl; omega)
      have HL := Lib.hid (And.intro hl hr)
      clear hl hr
      go_enter Try.func4, Try.ntmps4
      go_wp2_with fail
      refine HA.out.mono ?_
      rintro e w1 ⟨rfl, hb1⟩
      have HB1 := Lib.hid hb1
      clear hb1
      go_wp2_with fail
      refine (st_new w1).mono ?_
      rintro e w2 ⟨rfl, H2⟩
      have HS2 := Lib.hid H2
      clear H2
      go_wp2_with fail
      generalize hp : w1.heap.size = p at *
      have HP := Lib.hid hp
      clear hp
      go_loopw [17] (fun x wr => ∃ i : Nat, x = .int .i64 i ∧ i ≤ 2000 ∧ Hid (St w1 p (List.replicate i l) wr)) (fun x _ => 2001 - (intOf x).toNat)
      case atStart => exact ⟨0, rfl, Nat.zero_le _, HS2⟩
      case round =>
        obtain ⟨i, rfl, hi, HS⟩ := hrel
        have hrd : Rd wr (some a) l := (HL.out.2.on HB1.out (Nat.le_refl _)).on (HS.out.below) (Nat.le_refl _)
        have HR := Lib.hid hrd
        clear hrd
        by_cases hi2 : i < 2000
        · have hi3 : i + 1 ≤ 2000 := hi2
          go_wp2_with fail
          refine (st_put HS.out (by simp; omega) a n c l HL.out.1 HR.out (by omega) (by omega)).mono ?_
          rintro e w3 ⟨rfl, H3⟩
          have HS3 := Lib.hid H3
          clear H3
          go_wp2_with fail
          go_roundw
          case rel => exact ⟨i + 1, by go_num, hi3, Lib.hid (by have := HS3.out; rwa [← List.replicate_succ'] at this)⟩
          case measure => simp [intOf] <;> omega
        · obtain ⟨L, hLd⟩ : ∃ L, List.replicate i l = L := ⟨_, rfl⟩
          rw [hLd] at HS
          have hL : L.length = 2000 := by rw [← hLd, List.length_replicate]; omega
          clear hLd
          obtain rfl : i = 2000 := by omega
          clear hi hi2
          have hm : Int.tmod (q : Int) 2000 = ((q % 2000 : Nat) : Int) := by rw [Int.ofNat_tmod]; rfl
          obtain ⟨j, hj⟩ : ∃ j, q % 2000 = j := ⟨_, rfl⟩
          have hj2 : j < 2000 := by omega
          rw [hj] at hm
          have hm2 : (q : Int) % 2000 = (j : Int) := by omega
          clear hj
          go_wp2_with fail
          refine (st_full HS.out hL (some a) n c (by omega) (by omega)).mono ?_
          rintro e w3 ⟨rfl, rfl⟩
          go_wp2_with fail
          obtain ⟨x, hx⟩ : ∃ x, L[j]? = some x := ⟨_, List.getElem?_eq_getElem (by omega)⟩
          refine (st_hold HS.out j x hx).mono ?_
          rintro e w4 ⟨rfl, H4⟩
          have hL4 : (restL L j ++ [x]).length = 2000 := by rw [List.length_append, restL_len (by omega), hL]; rfl
          have HS4 := Lib.hid H4
          have HR4 : Hid (Rd w4 (some a) l) := Lib.hid ((HL.out.2.on HB1.out (Nat.le_refl _)).on (H4.below) (Nat.le_refl _))
          clear H4 hx HR
          generalize restL L j ++ [x] = K at *
          go_wp2_with fail
          refine (st_full HS4.out hL4 (some a) n c (by omega) (by omega)).mono ?_
          rintro e w5 ⟨rfl, rfl⟩
          go_wp2_with fail
          refine (st_drop HS4.out j (by omega)).mono ?_
          rintro e w6 ⟨rfl, H6⟩
          have hL6 : (restL K j).length = 1999 := by rw [restL_len (by omega), hL4]
          have HS6 := Lib.hid H6
          have HR6 : Hid (Rd w6 (some a) l) := Lib.hid ((HL.out.2.on HB1.out (Nat.le_refl _)).on (H6.below) (Nat.le_refl _))
          clear H6
          generalize restL K j = N at *
          go_wp2_with fail
          refine (st_put HS6.out (by omega) a n c l HL.out.1 HR6.out (by omega) (by omega)).mono ?_
          rintro e w7 ⟨rfl, H7⟩
          have hL7 : (N ++ [l]).length = 2000 := by rw [List.length_append, hL6]; rfl
          have HS7 := Lib.hid H7
          clear H7
          generalize N ++ [l] = O at *
          go_wp2_with fail
          refine (st_len HS7.out).mono ?_
          rintro e w8 ⟨rfl, rfl⟩
          rw [hL7]
          go_wp2_with fail
          go_ret
          exact ⟨rfl, HB1.out.trans (HS7.out.below.mono HB1.out.size)⟩
end Go.Proofs.Ythjcllgjojldjaa.Bg
