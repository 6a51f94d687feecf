/- credit: the law on how deep shares are split, walked. -/
import Derived.Test.YtapofbiflkfocaaB3
namespace Go.Proofs.Ytapofbiflkfocaa.Cr
open Go Go.RowKit
theorem split_ok {c m s r : Int} (hc : 0 ≤ c) (hm : 0 ≤ m) (hm4 : m ≤ 4) (h : splR c m = (s, r, 0)) : 1 ≤ s ∧ m * s + r = c ∧ s ≤ r := by
  unfold splR at h
  rw [if_neg (by omega)] at h
  split at h
  · simp at h
  · rename_i hz
    simp only [Prod.mk.injEq] at h
    obtain ⟨rfl, rfl, _⟩ := h
    have h0 : 0 ≤ c / (m + 1) := Int.ediv_nonneg hc (by omega)
    have hdm := Int.mul_ediv_add_emod c (m + 1)
    have hr0 := Int.emod_nonneg c (show m + 1 ≠ 0 by omega)
    rw [Int.add_mul, Int.one_mul] at hdm
    exact ⟨by omega, by omega, by omega⟩
theorem split_bad {c m s r e : Int} (_hc : 0 ≤ c) (hm : 0 ≤ m) (hm4 : m ≤ 4) (h : splR c m = (s, r, e)) (he : e ≠ 0) : e = 4 ∧ c < m + 1 := by
  unfold splR at h
  rw [if_neg (by omega)] at h
  split at h
  · rename_i hz
    simp only [Prod.mk.injEq] at h
    refine ⟨h.2.2.symm, ?_⟩
    have := Int.lt_mul_ediv_self_add (x := c) (show 0 < m + 1 by omega)
    rw [hz] at this
    omega
  · simp only [Prod.mk.injEq] at h
    exact absurd h.2.2.symm he
/-- The pool while messages of level i come back: k have, of this level. -/
structure DeepS (w0 : World) (p a : Nat) (i k : Nat) (o : Int) (w : World) : Prop where
  pool : ∃ q C, Pool w p a q o C ∧ q ≤ i * 4000 + k ∧ (∀ j : Nat, k ≤ j → C ((i : Int), (j : Int)) = false) ∧ ∀ i' j : Nat, i < i' → C ((i' : Int), (j : Int)) = false
  low : Below w0.heap.size w0 w
  p0 : w0.heap.size ≤ p
  a0 : w0.heap.size ≤ a
section
variable {w0 w : World} {p a i k : Nat} {o : Int}
set_option maxRecDepth 100000 in
theorem DeepS.back (h : DeepS w0 p a i k o w) (hi : i < 12) (hk : k < 4000) {c : Int} (h0 : 0 ≤ c) (h1 : c ≤ o) :
    Calls Try.prog 11 #[.pointer (some ⟨p, 0, none⟩), .int .u8 i, .int .u64 k, .int .u64 c] w fun e w' => e = .returned (.tuple #[.bool true, .int .i64 0]) ∧ DeepS w0 p a i (k + 1) (o - c) w' := by
  obtain ⟨q, C, hp, hq, hC, hC2⟩ := h.pool
  refine (back_first hp (k := ((i : Int), (k : Int))) ⟨⟨by simp, by simp; omega⟩, ⟨by simp, by simp; omega⟩⟩ (hC k (Nat.le_refl _)) h0 h1 (by unfold maxLen; omega)).mono ?_
  rintro e w' ⟨rfl, hp', ht⟩
  refine ⟨rfl, ⟨q + 1, _, hp', by omega, fun j hj => ?_, fun i' j hij => ?_⟩, h.low.trans (ht.below h.low.size (fun k hk => by rcases hk with rfl | rfl; exact h.p0; exact h.a0)), h.p0, h.a0⟩
  · unfold add
    rw [if_neg (by simp only [Prod.mk.injEq, not_and]; intro _; omega)]
    exact hC j (by omega)
  · unfold add
    rw [if_neg (by simp only [Prod.mk.injEq, not_and]; intro e; omega)]
    exact hC2 i' j hij
theorem DeepS.next (h : DeepS w0 p a i k o w) (hk : k ≤ 4000) : DeepS w0 p a (i + 1) 0 o w := by
  obtain ⟨q, C, hp, hq, hC, hC2⟩ := h.pool
  have h1 : q ≤ (i + 1) * 4000 + 0 := by rw [Nat.add_mul, Nat.one_mul, Nat.add_zero]; exact Nat.le_trans hq (Nat.add_le_add_left hk _)
  have h2 : ∀ j : Nat, 0 ≤ j → C (((i + 1 : Nat) : Int), (j : Int)) = false := by
    intro j _
    exact hC2 (i + 1) j (by omega)
  have h3 : ∀ i' j : Nat, i + 1 < i' → C ((i' : Int), (j : Int)) = false := by
    intro i' j hij
    exact hC2 i' j (by omega)
  refine ⟨⟨q, C, hp, h1, ?_, ?_⟩, h.low, h.p0, h.a0⟩
  · exact h2
  · exact h3
theorem DeepS.done (h : DeepS w0 p a i k o w) : Calls Try.prog 12 #[.pointer (some ⟨p, 0, none⟩)] w fun e w' => e = .returned (.bool (o == 0)) ∧ w = w' := by
  obtain ⟨q, C, hp, _⟩ := h.pool
  exact done_any hp
theorem DeepS.out (h : DeepS w0 p a i k o w) : Calls Try.prog 13 #[.pointer (some ⟨p, 0, none⟩)] w fun e w' => e = .returned (.int .u64 o) ∧ w = w' := by
  obtain ⟨q, C, hp, _⟩ := h.pool
  exact out_any hp
end
theorem le_mul_of {a b : Int} (ha : 1 ≤ a) (hb : 0 ≤ b) : b ≤ a * b := by
  have := Int.mul_le_mul_of_nonneg_right ha hb
  omega
set_option maxRecDepth 100000 in
set_option maxHeartbeats 4000000 in
theorem deeps_law (ao : Option Addr) (ca : Nat) (L : List Int) (w : World) (hr : Rd w ao L) (hi : ∀ x ∈ L, 0 ≤ x ∧ x ≤ 255) (hlm : L.length ≤ maxLen) :
    Calls Try.prog 6 #[.slice ao L.length ca] w fun e w' => e = .returned (.bool true) ∧ Below w.heap.size w w' := by
  have HL := Lib.hid (And.intro hr hi)
  unfold maxLen at hlm
  obtain ⟨l, hl⟩ : ∃ l, L.length = l := ⟨_, rfl⟩
  rw [hl] at hlm ⊢
  have HN := Lib.hid hl
  clear hr hi hl
  have hA := awake_any w
  go_enter Try.func6, Try.ntmps6
  go_wp2_with (go_at_call 7; refine hA.mono ?_; rintro e w1 ⟨rfl, hb⟩; have A1 := Lib.hid hb; clear hb)
  refine (new_any w1).mono ?_
  rintro e w2 ⟨rfl, hp, hb, hz⟩
  have HI : Hid (DeepS w (w1.heap.size + 1) w1.heap.size 0 0 1152921504606846976 w2) := Lib.hid ⟨⟨0, _, hp, by omega, fun _ _ => rfl, fun _ _ _ => rfl⟩, A1.out.trans (hb.mono A1.out.size), by have := A1.out.size; omega, A1.out.size⟩
  clear hp hb hz hA
  generalize w1.heap.size + 1 = p at *
  generalize w1.heap.size = a at *
  go_wp2_with fail
  go_loopw [4, 5, 20] (fun u4 u5 u wr => ∃ (i n : Nat) (c : Int), i ≤ l ∧ i ≤ 12 ∧ u4 = .int .u64 c ∧ u5 = .int .u64 n ∧ u = .int .i64 i ∧ Hid (1 ≤ n ∧ 1 ≤ c ∧ (n : Int) * c ≤ 1152921504606846976 ∧ DeepS w p a i 0 (n * c) wr)) (fun _ _ u _ => l - (intOf u).toNat)
  case atStart => exact ⟨0, 1, _, by omega, by omega, rfl, rfl, rfl, Lib.hid ⟨by decide, by decide, by decide, HI.out⟩⟩
  case round =>
    obtain ⟨i, n, c, hil, hi12, rfl, rfl, rfl, HA⟩ := hrel
    have hn1 := HA.out.1
    have hc1 := HA.out.2.1
    have hnc := HA.out.2.2.1
    have hcn : c ≤ 1152921504606846976 := Int.le_trans (le_mul_of (by omega) (by omega)) hnc
    have hnn : (n : Int) ≤ 1152921504606846976 := Int.le_trans (by rw [Int.mul_comm]; exact le_mul_of hc1 (by omega)) hnc
    have hdn := HA.out.2.2.2.done
    have hz : ((n : Int) * c == 0) = false := by
      have := Int.mul_pos (show (0 : Int) < n by omega) (show (0 : Int) < c by omega)
      simp; omega
    rw [hz] at hdn
    have HD := Lib.hid hdn
    have HC := Lib.hid hnc
    clear hdn hz hnc HI
    by_cases hlt : i < l
    · obtain ⟨x, hx⟩ : ∃ x, L[i]? = some x := ⟨_, List.getElem?_eq_getElem (by have := HN.out; omega)⟩
      obtain ⟨g, og, rfl, _, cx⟩ := (HL.out.1.on HA.out.2.2.2.low (Nat.le_refl _)) i x hx
      have hx2 := HL.out.2 x (List.mem_of_getElem? hx)
      clear hx
      have j1 : (i : Int) < (l : Int) := by omega
      by_cases h12 : (12 : Int) ≤ (i : Int)
      · go_wp2_with (go_at_call 12; refine HD.out.mono ?_; rintro e w3 ⟨rfl, rfl⟩)
        go_ret
        exact ⟨rfl, HA.out.2.2.2.low⟩
      by_cases h4 : (4000 : Int) < (n : Int)
      · go_wp2_with (go_at_call 12; refine HD.out.mono ?_; rintro e w3 ⟨rfl, rfl⟩)
        go_ret
        exact ⟨rfl, HA.out.2.2.2.low⟩
      obtain ⟨m, hm, hm4⟩ : ∃ m : Nat, x % 5 = (m : Int) ∧ m ≤ 4 := ⟨(x % 5).toNat, by omega, by omega⟩
      have e1 : IntKind.u64.wrap (m : Int) = m := by simp [IntKind.wrap, IntKind.bits, IntKind.signed]; omega
      have hS := fun w' => split_any c m w' (by omega) (by omega)
      obtain ⟨s, r, e, hR⟩ : ∃ s r e, splR c (m : Int) = (s, r, e) := ⟨_, _, _, rfl⟩
      simp only [hR] at hS
      have HS := Lib.hid hS
      have HR := Lib.hid hR
      clear hS hR
      by_cases he : e = 0
      · subst he
        obtain ⟨s1, sr, sr2⟩ := split_ok (by omega) (by omega) (by omega) HR.out
        have HQ := Lib.hid sr
        clear sr
        go_wp2_with (go_at_call 8; refine (HS.out _).mono ?_; rintro e w3 ⟨rfl, rfl⟩)
        generalize wr = wo at *
        go_loopw [53] (fun u wx => ∃ k : Nat, k ≤ n ∧ u = .int .u64 k ∧ Hid (DeepS w p a i k ((n : Int) * c - k * r) wx)) (fun u _ => n - (intOf u).toNat)
        case atStart => exact ⟨0, by omega, rfl, Lib.hid (by simpa using HA.out.2.2.2)⟩
        case round =>
          obtain ⟨k, hk, rfl, HK⟩ := hrel
          have e8 : IntKind.u8.wrap (i : Int) = i := by simp [IntKind.wrap, IntKind.bits, IntKind.signed]; omega
          by_cases hkn : k < n
          · have k1 : (k : Int) < (n : Int) := by omega
            have hb : r ≤ (n : Int) * c - k * r := by
              have h1 := Int.mul_le_mul_of_nonneg_left (show r ≤ c by have := HQ.out; have := Int.mul_nonneg (show (0 : Int) ≤ m by omega) (show 0 ≤ s by omega); omega) (show (0 : Int) ≤ n by omega)
              have h2 := Int.mul_le_mul_of_nonneg_right (show (k : Int) + 1 ≤ n by omega) (show 0 ≤ r by omega)
              rw [Int.add_mul, Int.one_mul] at h2
              omega
            have HB := HK.out.back (by omega) (by omega) (show 0 ≤ r by omega) hb
            rw [show (n : Int) * c - k * r - r = n * c - ((k + 1 : Nat) : Int) * r by rw [Int.natCast_add, Int.add_mul]; omega] at HB
            have HB' := Lib.hid HB
            clear HB hb
            go_wp2_with (go_at_call 11; refine HB'.out.mono ?_; rintro e w4 ⟨rfl, h⟩; have H4 := Lib.hid h; clear h)
            go_roundw
            case rel => exact ⟨k + 1, by omega, by go_num, H4⟩
            case measure => simp [intOf]; omega
          · obtain rfl : k = n := by omega
            have ho : (k : Int) * c - k * r = k * m * s := by rw [← HQ.out, Int.mul_add, Int.mul_assoc]; omega
            have HE := Lib.hid (HK.out.next (by omega))
            rw [ho] at HE
            have f1 : 0 ≤ (k : Int) * m := Int.mul_nonneg (by omega) (by omega)
            have f2 : 0 ≤ (k : Int) * m * s := Int.mul_nonneg f1 (by omega)
            have f3 : (k : Int) * m * s ≤ 1152921504606846976 := by
              have := Int.mul_nonneg (show (0 : Int) ≤ k by omega) (show 0 ≤ r by omega)
              have := HC.out
              omega
            have f4 : (k : Int) * m ≤ k * m * s := by rw [Int.mul_comm _ s]; exact le_mul_of s1 f1
            have w1 : IntKind.u64.wrap ((k : Int) * m) = k * m := by simp [IntKind.wrap, IntKind.bits, IntKind.signed]; omega
            have w2 : IntKind.u64.wrap ((k : Int) * m * s) = k * m * s := by simp [IntKind.wrap, IntKind.bits, IntKind.signed]; omega
            have HO := Lib.hid HE.out.out
            have HF := HE.out.done
            by_cases hm0 : m = 0
            · have g1 : ((k : Int) * m == 0) = true := by simp [hm0]
              have g2 : ((k : Int) * m * s == 0) = true := by simp [hm0]
              rw [g2] at HF
              have HF' := Lib.hid HF
              clear HF hm0 ho f1 f2 f3 f4
              go_wp2_with (first
                | (go_at_call 13; refine HO.out.mono ?_; rintro e w5 ⟨rfl, rfl⟩)
                | (go_at_call 12; refine HF'.out.mono ?_; rintro e w5 ⟨rfl, rfl⟩))
              go_ret
              exact ⟨rfl, HE.out.low⟩
            · have hmp : 0 < (k : Int) * m := Int.mul_pos (by omega) (by omega)
              have g1 : ((k : Int) * m == 0) = false := by simp; omega
              have g2 : ((k : Int) * m * s == 0) = false := by simp; omega
              rw [g2] at HF
              have HF' := Lib.hid HF
              have HX := Lib.hid (And.intro hmp (And.intro s1 f3))
              clear HF hm0 ho f1 f2 f3 f4 hmp
              go_wp2_with (first
                | (go_at_call 13; refine HO.out.mono ?_; rintro e w5 ⟨rfl, rfl⟩)
                | (go_at_call 12; refine HF'.out.mono ?_; rintro e w5 ⟨rfl, rfl⟩))
              go_roundw
              case rel => exact ⟨i + 1, k * m, s, by omega, by omega, rfl, by rw [Int.natCast_mul], by go_num, Lib.hid ⟨by have := HX.out.1; rw [← Int.natCast_mul] at this; omega, HX.out.2.1, by rw [Int.natCast_mul]; exact HX.out.2.2, by rw [Int.natCast_mul]; exact HE.out⟩⟩
              case measure => simp [intOf]; omega
      · obtain ⟨rfl, hlt2⟩ := split_bad (by omega) (by omega) (by omega) HR.out he
        clear he
        have e2 : IntKind.u64.wrap ((m : Int) + 1) = m + 1 := by simp [IntKind.wrap, IntKind.bits, IntKind.signed]; omega
        go_wp2_with (go_at_call 8; refine (HS.out _).mono ?_; rintro e w3 ⟨rfl, rfl⟩)
        go_ret
        exact ⟨rfl, HA.out.2.2.2.low⟩
    · obtain rfl : i = l := by omega
      go_wp2_with (go_at_call 12; refine HD.out.mono ?_; rintro e w3 ⟨rfl, rfl⟩)
      go_ret
      exact ⟨rfl, HA.out.2.2.2.low⟩
end Go.Proofs.Ytapofbiflkfocaa.Cr
