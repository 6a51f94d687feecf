/- index: what is put and taken away leaves nothing, walked. -/
import Derived.Test.YthjcohaldjfniaaK2
namespace Go.Proofs.Ythjcohaldjfniaa.Ix
open Go Go.RowKit
open Pq (Pg pv fq)
open It (fl)
/-- Numbers that stand from an address on. -/
def Rk (w : World) (ao : Option Addr) (l : List Int) : Prop :=
  ∀ i t, l[i]? = some t → ∃ b off, ao = some ⟨b, off, none⟩ ∧ b < w.heap.size ∧ w.cell? ⟨b, off + i, none⟩ = some (.int .u64 t)
theorem Rk.on {w w' : World} {ao : Option Addr} {l : List Int} (h : Rk w ao l) (hb : Below w.heap.size w w') : Rk w' ao l := by
  intro i t ht
  obtain ⟨b, off, h1, h2, h3⟩ := h i t ht
  exact ⟨b, off, h1, Nat.lt_of_lt_of_le h2 hb.size, (hb.cell (p := ⟨b, off + i, none⟩) h2).trans h3⟩
theorem Rk.take {w : World} {ao : Option Addr} {l : List Int} (h : Rk w ao l) (n : Nat) : Rk w ao (l.take n) := by
  intro i t ht
  rw [List.getElem?_take] at ht
  split at ht
  · exact h i t ht
  · cases ht
theorem Rk.at_ {w wr : World} {ao : Option Addr} {l : List Int} (h : Rk w ao l) (hb : Below w.heap.size w wr) {i : Nat} (hi : i < l.length) : ∃ q, l[i]? = some q ∧ ∃ b off, ao = some ⟨b, off, none⟩ ∧ wr.cell? ⟨b, off + i, none⟩ = some (.int .u64 q) := by
  obtain ⟨b, off, h1, h2, h3⟩ := h i l[i] (List.getElem?_eq_getElem hi)
  exact ⟨l[i], List.getElem?_eq_getElem hi, b, off, h1, (hb.cell (p := ⟨b, off + i, none⟩) h2).trans h3⟩
theorem mem_putL {L : IL} {k u : Int} {e : Int × Int} (h : e ∈ putL L k u) : e ∈ L ∨ e = (k, u) := by
  unfold putL at h
  simp only [List.mem_append, List.mem_cons, List.mem_filter] at h
  rcases h with h | h | h
  · exact .inl h.1
  · exact .inr h
  · exact .inl h.1
def EmA (w : World) (K : List Int) (i : Nat) (wr : World) : Prop := ∃ L, St w w.heap.size L wr ∧ (∀ e ∈ L, e.1 ∈ K) ∧ L.length ≤ i
def EmB (w : World) (K : List Int) (T n j : Nat) (wr : World) : Prop := ∃ L, St w w.heap.size L wr ∧ L.length ≤ 120 ∧ ∀ e ∈ L, e.1 ∈ K ∧ ∀ m, m < j → e.1 ≠ K.getD ((T + m) % n) 0
theorem EmA.key {w wr : World} {K : List Int} {k i : Nat} {ao : Option Addr} (h : EmA w K k wr) (hr : Rk w ao K) (hi : i < K.length) : ∃ q, K[i]? = some q ∧ ∃ b off, ao = some ⟨b, off, none⟩ ∧ wr.cell? ⟨b, off + i, none⟩ = some (.int .u64 q) := by
  obtain ⟨L, h1, _⟩ := h
  exact hr.at_ h1.ahead hi
theorem EmB.key {w wr : World} {K : List Int} {T n j i : Nat} {ao : Option Addr} (h : EmB w K T n j wr) (hr : Rk w ao K) (hi : i < K.length) : ∃ q, K[i]? = some q ∧ ∃ b off, ao = some ⟨b, off, none⟩ ∧ wr.cell? ⟨b, off + i, none⟩ = some (.int .u64 q) := by
  obtain ⟨L, h1, _⟩ := h
  exact hr.at_ h1.ahead hi
theorem EmA.put {w wr : World} {K : List Int} {i : Nat} (h : EmA w K i wr) (q : Int) (hq : q ∈ K) (hi : i < 4096) : Calls Try.prog 10 #[.pointer (some ⟨w.heap.size, 0, none⟩), .int .u64 q, .int .u64 1] wr fun e w' => e = .returned (.int .i64 0) ∧ EmA w K (i + 1) w' := by
  obtain ⟨L, h1, h2, h3⟩ := h
  refine (st_put h1 q 1 (by omega)).mono ?_
  rintro e w' ⟨rfl, hs⟩
  exact ⟨rfl, _, hs, fun e he => (mem_putL he).elim (h2 e) (fun e1 => by rw [e1]; exact hq), by have := putL_len L q 1; omega⟩
theorem EmA.turn {w wr : World} {K : List Int} {n T : Nat} (h : EmA w K n wr) (hn : n ≤ 120) : EmB w K T n 0 wr := by
  obtain ⟨L, h1, h2, h3⟩ := h
  exact ⟨L, h1, by omega, fun e he => ⟨h2 e he, fun m hm => by omega⟩⟩
theorem st_get_yes {w wr : World} {p : Nat} {L : IL} (h : St w p L wr) (k : Int) (hn : L.length ≤ 4096) (hh : hasL L k) : Calls Try.prog 14 #[.pointer (some ⟨p, 0, none⟩), .int .u64 k] wr fun e w' => (∃ u, e = .returned (.tuple #[.int .u64 u, .bool true])) ∧ St w p L w' := by
  refine (st_get h k hn).mono ?_
  rintro e w' ⟨⟨u, ok, rfl, h4⟩, hs⟩
  rcases h4 with ⟨rfl, _⟩ | ⟨_, _, h5⟩
  · exact ⟨⟨u, rfl⟩, hs⟩
  · exact absurd hh h5
theorem st_get_no {w wr : World} {p : Nat} {L : IL} (h : St w p L wr) (k : Int) (hn : L.length ≤ 4096) (hh : ¬ hasL L k) : Calls Try.prog 14 #[.pointer (some ⟨p, 0, none⟩), .int .u64 k] wr fun e w' => e = .returned (.tuple #[.int .u64 0, .bool false]) ∧ St w p L w' := by
  refine (st_get h k hn).mono ?_
  rintro e w' ⟨⟨u, ok, rfl, h4⟩, hs⟩
  rcases h4 with ⟨_, h5⟩ | ⟨rfl, rfl, _⟩
  · exact absurd ⟨_, h5, rfl⟩ hh
  · exact ⟨rfl, hs⟩
theorem em_next {w wr : World} {p : Nat} (h : St w p [] wr) : Calls Try.prog 16 #[.pointer (some ⟨p, 0, none⟩), .int .u64 0] wr fun e w' => e = .returned (.tuple #[.agg #[.int .u64 0, .int .u64 0], .bool false]) ∧ St w p [] w' := by
  refine (st_next h 0 (by simp)).mono ?_
  rintro e w' ⟨⟨t, ok, rfl, h4⟩, hs⟩
  rcases h4 with ⟨_, h5⟩ | ⟨rfl, rfl, _⟩
  · simp [nextL] at h5
  · exact ⟨rfl, hs⟩
theorem em_range {w wr : World} {p : Nat} (h : St w p [] wr) (a b : Int) : Calls Try.prog 21 #[.pointer (some ⟨p, 0, none⟩), .int .u64 a, .int .u64 b] wr fun e w' => (∃ ao cap, e = .returned (.slice ao 0 cap)) ∧ St w p [] w' := by
  refine (st_range h a b (by simp)).mono ?_
  rintro e w' ⟨⟨ao, cap, rfl, _⟩, hs⟩
  exact ⟨⟨ao, cap, rfl⟩, hs⟩
theorem em_pages {w wr : World} {p : Nat} (h : St w p [] wr) : Calls Try.prog 20 #[.pointer (some ⟨p, 0, none⟩)] wr fun e w' => (∃ ao cap, e = .returned (.slice ao 0 cap)) ∧ St w p [] w' := by
  refine (st_pages h (by simp)).mono ?_
  rintro e w' ⟨⟨X, hf, hc, ao, cap, Y, rfl, _⟩, hs⟩
  have : X = [] := (cont_pos hf).1 (by rw [hc]; rfl)
  subst this
  exact ⟨⟨ao, cap, rfl⟩, hs⟩
theorem EmB.none {w wr : World} {K : List Int} {T n : Nat} (h : EmB w K T n n wr) (hK : K.length = n) (hT : T ≤ n) : St w w.heap.size [] wr := by
  obtain ⟨L, h1, _, h3⟩ := h
  have : L = [] := by
    rcases List.eq_nil_or_concat L with h | ⟨L', e, rfl⟩
    · exact h
    · exfalso
      obtain ⟨h4, h5⟩ := h3 e (by simp)
      obtain ⟨m, hm, e1⟩ := List.mem_iff_getElem.1 h4
      have key : ∃ j, j < n ∧ (T + j) % n = m := by
        rcases Nat.lt_or_ge m T with h6 | h6
        · exact ⟨m + n - T, by omega, by rw [show T + (m + n - T) = m + n by omega, Nat.add_mod_right]; exact Nat.mod_eq_of_lt (by omega)⟩
        · exact ⟨m - T, by omega, by rw [show T + (m - T) = m by omega]; exact Nat.mod_eq_of_lt (by omega)⟩
      obtain ⟨j, hj, ej⟩ := key
      have := h5 j hj
      rw [ej] at this
      simp [List.getElem?_eq_getElem hm, e1] at this
  subst this
  exact h1
set_option maxRecDepth 100000 in
set_option maxHeartbeats 4000000 in
theorem empties_law (ao : Option Addr) (ca : Nat) (l : List Int) (t : Int) (w : World) (hA : Rk w ao l) (mA : l.length ≤ ca) (mB : ca ≤ maxLen) (t0 : 0 ≤ t) (t1 : t ≤ 255) :
    Calls Try.prog 7 #[.slice ao l.length ca, .int .u8 t] w fun e w' => e = .returned (.bool true) ∧ Below w.heap.size w w' := by
  have HA := Lib.hid hA
  unfold maxLen at mB
  clear hA
  by_cases h120 : l.length ≤ 120
  · obtain ⟨n, en⟩ : ∃ n, l.length = n := ⟨_, rfl⟩
    obtain ⟨K, eK⟩ : ∃ K, K = l := ⟨_, rfl⟩
    have EN := Lib.hid en
    have hn : n ≤ 120 := by omega
    rw [en] at mA ⊢
    clear h120 en
    go_enter Try.func7, Try.ntmps7
    go_upto_region 4 with (go_at_call 8; refine (awake_any w).mono ?_; rintro e wa ⟨rfl, hba⟩; have HB := Lib.hid hba; clear hba)
    have hRk : Rk wa ao K := by rw [eK]; exact HA.out.on HB.out
    have hK : K.length = n := by rw [eK]; exact EN.out
    have HK := Lib.hid (And.intro hK hRk)
    clear eK
    obtain ⟨T, hT⟩ : ∃ T : Nat, (t % ((n : Int) + 1)) = (T : Int) := ⟨(t % ((n : Int) + 1)).toNat, by have := Int.emod_nonneg t (show (n : Int) + 1 ≠ 0 by omega); omega⟩
    have hTn : T ≤ n := by have := Int.emod_lt_of_pos t (show (0 : Int) < (n : Int) + 1 by omega); omega
    clear hK hRk
    go_wp2_with fail
    refine (st_new wa).mono ?_
    rintro e w1 ⟨rfl, h1⟩
    have H1 := Lib.hid (show EmA wa K 0 w1 from ⟨[], h1, by simp, by simp⟩)
    clear h1
    go_wp2_with fail
    go_loopw [25] (fun u25 wr => ∃ i : Nat, i ≤ n ∧ u25 = .int .i64 i ∧ Hid (EmA wa K i wr)) (fun u25 _ => n - (intOf u25).toNat)
    case atStart => exact ⟨0, Nat.zero_le _, rfl, H1⟩
    case round =>
      obtain ⟨i, hi, rfl, I⟩ := hrel
      by_cases hlt : i < n
      · obtain ⟨q, hq, b, off, rfl, c1⟩ := I.out.key HK.out.2 (i := i) (by have := HK.out.1; omega)
        have HQ := Lib.hid hq
        have ii : (i : Int) < (n : Int) := by omega
        clear hq
        go_wp2_with (go_at_call 10; refine (EmA.put (show Hid (EmA wa K i wr) from I).out q (List.mem_of_getElem? HQ.out) (by omega)).mono ?_; rintro e w3 ⟨rfl, h3⟩; have H3 := Lib.hid h3; clear h3)
        go_roundw
        case rel => exact ⟨i + 1, by omega, by go_num, H3⟩
        case measure => simp [intOf]; omega
      · obtain rfl : i = n := by omega
        have H2 := Lib.hid (show EmB wa K T i 0 wr from I.out.turn hn)
        clear I
        go_wp2_with fail
        rw [hT]
        clear hT
        go_loopw [42] (fun u42 wr => ∃ j : Nat, j ≤ i ∧ u42 = .int .i64 j ∧ Hid (EmB wa K T i j wr)) (fun u42 _ => i - (intOf u42).toNat)
        case atStart => exact ⟨0, Nat.zero_le _, rfl, H2⟩
        case round =>
          obtain ⟨j, hj, rfl, J⟩ := hrel
          by_cases hlt2 : j < i
          · obtain ⟨m, hm⟩ : ∃ m : Nat, (T + j) % i = m := ⟨_, rfl⟩
            have hmi : m < i := by rw [← hm]; exact Nat.mod_lt _ (by omega)
            have im : ((T : Int) + (j : Int)) % (i : Int) = (m : Int) := by rw [← hm]; push_cast; rfl
            obtain ⟨q, hq, b, off, rfl, c1⟩ := J.out.key HK.out.2 (i := m) (by have := HK.out.1; omega)
            have HQ := Lib.hid (And.intro hq hm)
            have ij : (j : Int) < (i : Int) := by omega
            have imi : (m : Int) < (i : Int) := by omega
            have i0 : ((i : Int) == 0) = false := beq_eq_false_iff_ne.2 (by omega)
            have im0 : (0 : Int) ≤ (m : Int) := by omega
            have T9 : T ≤ 120 := by omega
            obtain ⟨L, hs, hL, hall⟩ := J.out
            have HS := Lib.hid hs
            have HL := Lib.hid (And.intro hL hall)
            have hstep : ∀ M : IL, (∀ e ∈ M, e ∈ L ∧ e.1 ≠ q) → M.length ≤ 120 → ∀ wr', St wa wa.heap.size M wr' → EmB wa K T i (j + 1) wr' := fun M hM hMl wr' hst => ⟨M, hst, hMl, fun e he => ⟨(hall e (hM e he).1).1, fun x hx => by
              rcases Nat.lt_or_ge x j with hxj | hxj
              · exact (hall e (hM e he).1).2 x hxj
              · obtain rfl : x = j := by omega
                rw [hm]
                have := (hM e he).2
                simpa [hq] using this⟩⟩
            have HSTEP := Lib.hid hstep
            clear hq hm hs hL hall hstep
            by_cases hh : hasL L q
            · have HH := Lib.hid hh
              clear hh
              go_wp2_with (first
                | (go_at_call 14; refine (st_get_yes HS.out q (by have := HL.out.1; omega) HH.out).mono ?_; rintro e w3 ⟨⟨u, rfl⟩, h3⟩; have H3 := Lib.hid h3; clear h3)
                | (go_at_call 12; refine (st_del H3.out q (by have := HL.out.1; omega) HH.out).mono ?_; rintro e w4 ⟨rfl, h4⟩; have H4 := Lib.hid h4; clear h4))
              go_roundw
              case rel =>
                have hr := Lib.hid (HSTEP.out (delL L q) (fun e he => by simp only [delL, List.mem_filter, decide_eq_true_eq] at he; exact he) (Nat.le_trans (delL_len L q) HL.out.1) _ H4.out)
                exact ⟨j + 1, by omega, by go_num, hr⟩
              case measure => simp [intOf]; omega
            · have HH := Lib.hid hh
              clear hh
              go_wp2_with (first
                | (go_at_call 14; refine (st_get_no HS.out q (by have := HL.out.1; omega) HH.out).mono ?_; rintro e w3 ⟨rfl, h3⟩; have H3 := Lib.hid h3; clear h3)
                | (go_at_call 12; refine (st_del_no H3.out q (by have := HL.out.1; omega) HH.out).mono ?_; rintro e w4 ⟨rfl, h4⟩; have H4 := Lib.hid h4; clear h4))
              go_roundw
              case rel =>
                have hr := Lib.hid (HSTEP.out L (fun e he => ⟨he, fun e1 => HH.out ⟨e, he, e1⟩⟩) HL.out.1 _ H4.out)
                exact ⟨j + 1, by omega, by go_num, hr⟩
              case measure => simp [intOf]; omega
          · obtain rfl : j = i := by omega
            have h9 := J.out.none (by rw [HK.out.1]) hTn
            have H9 := Lib.hid h9
            clear h9
            go_upto_region 21 with (go_at_call 16; refine (em_next H9.out).mono ?_; rintro e w5 ⟨rfl, h5⟩; have H5 := Lib.hid (h5.below ((Below.refl w5.heap.size w5).alloc (Nat.le_refl _) (.cells #[.int .u64 0, .int .u64 0] 42))); clear h5)
            go_wp2_with (first
              | (go_at_call 18; refine (st_len H5.out).mono ?_; rintro e _ ⟨rfl, rfl⟩)
              | (go_at_call 20; refine (em_pages H5.out).mono ?_; rintro e w6 ⟨⟨ao2, c2, rfl⟩, h6⟩; have H6 := Lib.hid h6; clear h6)
              | (go_at_call 21; refine (em_range H6.out 0 18446744073709551615).mono ?_; rintro e w7 ⟨⟨ao3, c3, rfl⟩, h7⟩; have H7 := Lib.hid h7; clear h7))
            go_ret
            exact ⟨rfl, HB.out.trans (H7.out.ahead.mono HB.out.size)⟩
  · obtain ⟨n, en⟩ : ∃ n : Nat, n = 120 := ⟨_, rfl⟩
    obtain ⟨K, eK⟩ : ∃ K, K = l.take 120 := ⟨_, rfl⟩
    have l2 : (120 : Int) < (l.length : Int) := by omega
    have hn : n ≤ 120 := by omega
    have hk0 : K.length = n := by rw [eK, List.length_take]; omega
    have HK0 := Lib.hid (And.intro hk0 eK)
    clear h120 hk0 eK
    have EN := Lib.hid en
    clear en
    go_enter Try.func7, Try.ntmps7
    go_upto_region 4 with (go_at_call 8; refine (awake_any w).mono ?_; rintro e wa ⟨rfl, hba⟩; have HB := Lib.hid hba; clear hba)
    have hRk : Rk wa ao K := by rw [HK0.out.2]; exact (HA.out.on HB.out).take 120
    rw [show Value.slice ao 120 ca = Value.slice ao n ca by rw [EN.out]]
    have hK : K.length = n := HK0.out.1
    have HK := Lib.hid (And.intro hK hRk)
    obtain ⟨T, hT⟩ : ∃ T : Nat, (t % ((n : Int) + 1)) = (T : Int) := ⟨(t % ((n : Int) + 1)).toNat, by have := Int.emod_nonneg t (show (n : Int) + 1 ≠ 0 by omega); omega⟩
    have hTn : T ≤ n := by have := Int.emod_lt_of_pos t (show (0 : Int) < (n : Int) + 1 by omega); omega
    clear hK hRk
    go_wp2_with fail
    refine (st_new wa).mono ?_
    rintro e w1 ⟨rfl, h1⟩
    have H1 := Lib.hid (show EmA wa K 0 w1 from ⟨[], h1, by simp, by simp⟩)
    clear h1
    go_wp2_with fail
    go_loopw [25] (fun u25 wr => ∃ i : Nat, i ≤ n ∧ u25 = .int .i64 i ∧ Hid (EmA wa K i wr)) (fun u25 _ => n - (intOf u25).toNat)
    case atStart => exact ⟨0, Nat.zero_le _, rfl, H1⟩
    case round =>
      obtain ⟨i, hi, rfl, I⟩ := hrel
      by_cases hlt : i < n
      · obtain ⟨q, hq, b, off, rfl, c1⟩ := I.out.key HK.out.2 (i := i) (by have := HK.out.1; omega)
        have HQ := Lib.hid hq
        have ii : (i : Int) < (n : Int) := by omega
        clear hq
        go_wp2_with (go_at_call 10; refine (EmA.put (show Hid (EmA wa K i wr) from I).out q (List.mem_of_getElem? HQ.out) (by omega)).mono ?_; rintro e w3 ⟨rfl, h3⟩; have H3 := Lib.hid h3; clear h3)
        go_roundw
        case rel => exact ⟨i + 1, by omega, by go_num, H3⟩
        case measure => simp [intOf]; omega
      · obtain rfl : i = n := by omega
        have H2 := Lib.hid (show EmB wa K T i 0 wr from I.out.turn hn)
        clear I
        go_wp2_with fail
        rw [hT]
        clear hT
        go_loopw [42] (fun u42 wr => ∃ j : Nat, j ≤ i ∧ u42 = .int .i64 j ∧ Hid (EmB wa K T i j wr)) (fun u42 _ => i - (intOf u42).toNat)
        case atStart => exact ⟨0, Nat.zero_le _, rfl, H2⟩
        case round =>
          obtain ⟨j, hj, rfl, J⟩ := hrel
          by_cases hlt2 : j < i
          · obtain ⟨m, hm⟩ : ∃ m : Nat, (T + j) % i = m := ⟨_, rfl⟩
            have hmi : m < i := by rw [← hm]; exact Nat.mod_lt _ (by omega)
            have im : ((T : Int) + (j : Int)) % (i : Int) = (m : Int) := by rw [← hm]; push_cast; rfl
            obtain ⟨q, hq, b, off, rfl, c1⟩ := J.out.key HK.out.2 (i := m) (by have := HK.out.1; omega)
            have HQ := Lib.hid (And.intro hq hm)
            have ij : (j : Int) < (i : Int) := by omega
            have imi : (m : Int) < (i : Int) := by omega
            have i0 : ((i : Int) == 0) = false := beq_eq_false_iff_ne.2 (by omega)
            have im0 : (0 : Int) ≤ (m : Int) := by omega
            have T9 : T ≤ 120 := by omega
            obtain ⟨L, hs, hL, hall⟩ := J.out
            have HS := Lib.hid hs
            have HL := Lib.hid (And.intro hL hall)
            have hstep : ∀ M : IL, (∀ e ∈ M, e ∈ L ∧ e.1 ≠ q) → M.length ≤ 120 → ∀ wr', St wa wa.heap.size M wr' → EmB wa K T i (j + 1) wr' := fun M hM hMl wr' hst => ⟨M, hst, hMl, fun e he => ⟨(hall e (hM e he).1).1, fun x hx => by
              rcases Nat.lt_or_ge x j with hxj | hxj
              · exact (hall e (hM e he).1).2 x hxj
              · obtain rfl : x = j := by omega
                rw [hm]
                have := (hM e he).2
                simpa [hq] using this⟩⟩
            have HSTEP := Lib.hid hstep
            clear hq hm hs hL hall hstep
            by_cases hh : hasL L q
            · have HH := Lib.hid hh
              clear hh
              go_wp2_with (first
                | (go_at_call 14; refine (st_get_yes HS.out q (by have := HL.out.1; omega) HH.out).mono ?_; rintro e w3 ⟨⟨u, rfl⟩, h3⟩; have H3 := Lib.hid h3; clear h3)
                | (go_at_call 12; refine (st_del H3.out q (by have := HL.out.1; omega) HH.out).mono ?_; rintro e w4 ⟨rfl, h4⟩; have H4 := Lib.hid h4; clear h4))
              go_roundw
              case rel =>
                have hr := Lib.hid (HSTEP.out (delL L q) (fun e he => by simp only [delL, List.mem_filter, decide_eq_true_eq] at he; exact he) (Nat.le_trans (delL_len L q) HL.out.1) _ H4.out)
                exact ⟨j + 1, by omega, by go_num, hr⟩
              case measure => simp [intOf]; omega
            · have HH := Lib.hid hh
              clear hh
              go_wp2_with (first
                | (go_at_call 14; refine (st_get_no HS.out q (by have := HL.out.1; omega) HH.out).mono ?_; rintro e w3 ⟨rfl, h3⟩; have H3 := Lib.hid h3; clear h3)
                | (go_at_call 12; refine (st_del_no H3.out q (by have := HL.out.1; omega) HH.out).mono ?_; rintro e w4 ⟨rfl, h4⟩; have H4 := Lib.hid h4; clear h4))
              go_roundw
              case rel =>
                have hr := Lib.hid (HSTEP.out L (fun e he => ⟨he, fun e1 => HH.out ⟨e, he, e1⟩⟩) HL.out.1 _ H4.out)
                exact ⟨j + 1, by omega, by go_num, hr⟩
              case measure => simp [intOf]; omega
          · obtain rfl : j = i := by omega
            have h9 := J.out.none (by rw [HK.out.1]) hTn
            have H9 := Lib.hid h9
            clear h9
            go_upto_region 21 with (go_at_call 16; refine (em_next H9.out).mono ?_; rintro e w5 ⟨rfl, h5⟩; have H5 := Lib.hid (h5.below ((Below.refl w5.heap.size w5).alloc (Nat.le_refl _) (.cells #[.int .u64 0, .int .u64 0] 42))); clear h5)
            go_wp2_with (first
              | (go_at_call 18; refine (st_len H5.out).mono ?_; rintro e _ ⟨rfl, rfl⟩)
              | (go_at_call 20; refine (em_pages H5.out).mono ?_; rintro e w6 ⟨⟨ao2, c2, rfl⟩, h6⟩; have H6 := Lib.hid h6; clear h6)
              | (go_at_call 21; refine (em_range H6.out 0 18446744073709551615).mono ?_; rintro e w7 ⟨⟨ao3, c3, rfl⟩, h7⟩; have H7 := Lib.hid h7; clear h7))
            go_ret
            exact ⟨rfl, HB.out.trans (H7.out.ahead.mono HB.out.size)⟩
end Go.Proofs.Ythjcohaldjfniaa.Ix
