/- index: in whatever order keys come the items are the same, walked. -/
import Derived.Test.YthjcohaldjfniaaO1
namespace Go.Proofs.Ythjcohaldjfniaa.Ix
open Go Go.RowKit
open Pq (Pg pv fq)
open It (fl)
def cm (x : Int) : Int := bits BinOp.xor IntKind.u64 IntKind.u64.max x
def OrA (w : World) (a b : Nat) (K : List Int) (i : Nat) (wr : World) : Prop := ∃ A, St2 w a A b [] wr ∧ (∀ e, e ∈ A ↔ ∃ j, j < i ∧ e = (K.getD j 0, cm (K.getD j 0))) ∧ A.length ≤ i
theorem OrA.ahead {w wr : World} {a b : Nat} {K : List Int} {i : Nat} (h : OrA w a b K i wr) : Below w.heap.size w wr := by
  obtain ⟨_, h, _⟩ := h; exact h.ahead
theorem OrA.put {w wr : World} {a b : Nat} {K : List Int} {i : Nat} (h : OrA w a b K i wr) (q : Int) (hq : K[i]? = some q) (hi : i < 4096) : Calls Try.prog 10 #[.pointer (some ⟨a, 0, none⟩), .int .u64 q, .int .u64 (bits BinOp.xor IntKind.u64 IntKind.u64.max q)] wr fun e w' => e = .returned (.int .i64 0) ∧ OrA w a b K (i + 1) w' := by
  obtain ⟨A, h1, h2, h3⟩ := h
  refine (st2_put h1 q (cm q) (by omega)).mono ?_
  rintro e w' ⟨rfl, hs⟩
  refine ⟨rfl, _, hs, fun e => ?_, by have := putL_len A q (cm q); omega⟩
  have hg : K.getD i 0 = q := by simp [hq]
  rw [mem_putL_iff, h2]
  constructor
  · rintro (⟨⟨j, hj, rfl⟩, _⟩ | rfl)
    · exact ⟨j, by omega, rfl⟩
    · exact ⟨i, by omega, by rw [hg]⟩
  · rintro ⟨j, hj, rfl⟩
    by_cases hk : K.getD j 0 = q
    · right; rw [hk]
    · refine .inl ⟨⟨j, ?_, rfl⟩, hk⟩
      rcases Nat.lt_or_ge j i with h | h
      · exact h
      · obtain rfl : j = i := by omega
        exact absurd hg hk
def OrB (w : World) (a b : Nat) (K : List Int) (T n i : Nat) (wr : World) : Prop := ∃ A L, St2 w a A b L wr ∧ (∀ e, e ∈ A ↔ ∃ j, j < n ∧ e = (K.getD j 0, cm (K.getD j 0))) ∧ A.length ≤ n ∧ (∀ e, e ∈ L ↔ ∃ j, j < i ∧ e = (K.getD ((T + j) % n) 0, cm (K.getD ((T + j) % n) 0))) ∧ L.length ≤ i
theorem OrB.ahead {w wr : World} {a b : Nat} {K : List Int} {T n i : Nat} (h : OrB w a b K T n i wr) : Below w.heap.size w wr := by
  obtain ⟨_, _, h, _⟩ := h; exact h.ahead
theorem OrA.turn {w wr : World} {a b : Nat} {K : List Int} {n T : Nat} (h : OrA w a b K n wr) : OrB w a b K T n 0 wr := by
  obtain ⟨A, h1, h2, h3⟩ := h
  exact ⟨A, [], h1, h2, h3, by simp, by simp⟩
theorem OrB.put {w wr : World} {a b : Nat} {K : List Int} {T n i m : Nat} (h : OrB w a b K T n i wr) (hm : (T + i) % n = m) (q : Int) (hq : K[m]? = some q) (hi : i < 4096) : Calls Try.prog 10 #[.pointer (some ⟨b, 0, none⟩), .int .u64 q, .int .u64 (bits BinOp.xor IntKind.u64 IntKind.u64.max q)] wr fun e w' => e = .returned (.int .i64 0) ∧ OrB w a b K T n (i + 1) w' := by
  obtain ⟨A, L, h1, h4, h5, h2, h3⟩ := h
  refine (st2_put h1.swap q (cm q) (by omega)).mono ?_
  rintro e w' ⟨rfl, hs⟩
  refine ⟨rfl, A, _, hs.swap, h4, h5, fun e => ?_, by have := putL_len L q (cm q); omega⟩
  have hg : K.getD ((T + i) % n) 0 = q := by rw [hm]; simp [hq]
  rw [mem_putL_iff, h2]
  constructor
  · rintro (⟨⟨j, hj, rfl⟩, _⟩ | rfl)
    · exact ⟨j, by omega, rfl⟩
    · exact ⟨i, by omega, by rw [hg]⟩
  · rintro ⟨j, hj, rfl⟩
    by_cases hk : K.getD ((T + j) % n) 0 = q
    · right; rw [hk]
    · refine .inl ⟨⟨j, ?_, rfl⟩, hk⟩
      rcases Nat.lt_or_ge j i with h | h
      · exact h
      · obtain rfl : j = i := by omega
        exact absurd hg hk
/-- What both hold in the end. -/
structure OrC (L : IL) : Prop where
  up : Sorted L
  val : ∀ e ∈ L, e.2 = cm e.1
  key : ∀ e ∈ L, 0 ≤ e.1 ∧ e.1 ≤ 18446744073709551615
  len : L.length ≤ 100
theorem OrB.both {w wr : World} {a b : Nat} {K : List Int} {T n : Nat} (h : OrB w a b K T n n wr) (hK : K.length = n) (hk : ∀ x ∈ K, 0 ≤ x ∧ x ≤ 18446744073709551615) (hT : T ≤ n) (hn : n ≤ 100) : ∃ L, OrC L ∧ St2 w a L b L wr := by
  obtain ⟨A, L, h1, h4, h5, h2, h3⟩ := h
  have e : A = L := by
    refine sorted_ext h1.sorted.1 h1.sorted.2 (fun e => ?_)
    rw [h4, h2]
    constructor
    · rintro ⟨m, hm, rfl⟩
      have key : ∃ j, j < n ∧ (T + j) % n = m := by
        rcases Nat.lt_or_ge m T with h6 | h6
        · exact ⟨m + n - T, by omega, by rw [show T + (m + n - T) = m + n by omega, Nat.add_mod_right]; exact Nat.mod_eq_of_lt (by omega)⟩
        · exact ⟨m - T, by omega, by rw [show T + (m - T) = m by omega]; exact Nat.mod_eq_of_lt (by omega)⟩
      obtain ⟨j, hj, ej⟩ := key
      exact ⟨j, hj, by rw [ej]⟩
    · rintro ⟨j, hj, rfl⟩
      exact ⟨(T + j) % n, Nat.mod_lt _ (by omega), rfl⟩
  subst e
  refine ⟨A, ⟨h1.sorted.1, fun e he => ?_, fun e he => ?_, by omega⟩, h1⟩
  · obtain ⟨j, _, rfl⟩ := (h4 e).1 he; rfl
  · obtain ⟨j, hj, rfl⟩ := (h4 e).1 he
    exact hk _ (by
      have : K.getD j 0 = K[j]'(by omega) := by simp [List.getElem?_eq_getElem (show j < K.length by omega)]
      rw [this]; exact List.getElem_mem _)
theorem or_range {w wr : World} {a b : Nat} {L : IL} (h : St2 w a L b L wr) (hc : OrC L) : Calls Try.prog 21 #[.pointer (some ⟨a, 0, none⟩), .int .u64 0, .int .u64 18446744073709551615] wr fun e w' => ∃ ao cap, e = .returned (.slice ao L.length cap) ∧ Rl w' ao L ∧ L.length ≤ cap ∧ St2 w a L b L w' ∧ Below wr.heap.size wr w' := by
  have h0 := h
  obtain ⟨Fa, Fb, ⟨v, X, h1, e⟩, h2, h3, h4⟩ := h
  have hl := hc.len
  refine (range_all h1 0 18446744073709551615 (by rw [e]; omega)).mono ?_
  rintro e' w' ⟨v', rfl, h5, hb⟩
  rw [e, range_full hc.key] at h5
  obtain ⟨ao, cap, rfl, hcap, _⟩ := It.own_slice h5
  exact ⟨ao, cap, rfl, rl_own h5 rfl, hcap, h0.below hb, hb⟩
def OrS (w : World) (a : Nat) (L : IL) (al am : Option Addr) (wr : World) : Prop := St w a L wr ∧ Rl wr al L ∧ Rl wr am L
theorem OrS.drew {w wr : World} {a : Nat} {L : IL} {al am : Option Addr} (h : OrS w a L al am wr) (n : Nat) : OrS w a L al am (wr.drewN n) := by
  have hb := Below.drewN_refl wr n
  exact ⟨h.1.below hb, h.2.1.on hb, h.2.2.on hb⟩
theorem OrS.step {w wr w8 : World} {a : Nat} {L : IL} {al am : Option Addr} (h : OrS w a L al am wr) (n : Nat) (hb : Below (wr.drewN n).heap.size (wr.drewN n) w8) (hs : St w a L w8) (s : Int × Int) : OrS w a L al am (w8.alloc (.cells #[.int .u64 s.1, .int .u64 s.2] 42)) := by
  have h1 := h.drew n
  have hb2 := (Below.refl w8.heap.size w8).alloc (Nat.le_refl _) (.cells #[.int .u64 s.1, .int .u64 s.2] 42)
  exact ⟨hs.below hb2, (h1.2.1.on hb).on hb2, (h1.2.2.on hb).on hb2⟩
theorem keep8 {wr w8 : World} {g j n : Nat} {v : Value} (h : wr.cell? ⟨g, j, none⟩ = some v) (hg : g < wr.heap.size) (hb : Below (wr.drewN n).heap.size (wr.drewN n) w8) (o : Obj) : (w8.alloc o).cell? ⟨g, j, none⟩ = some v :=
  (World.cell?_alloc_lt w8 o ⟨g, j, none⟩ (Nat.lt_of_lt_of_le hg hb.size)).trans ((hb.cell (p := ⟨g, j, none⟩) hg).trans h)
theorem or_next_yes {w wr : World} {p : Nat} {L : IL} {k : Int} {s : Int × Int} (h : St w p L wr) (hn : L.length ≤ 100) (hs : (nextL L k).head? = some s) : Calls Try.prog 16 #[.pointer (some ⟨p, 0, none⟩), .int .u64 k] wr fun e w' => e = .returned (.tuple #[.agg #[.int .u64 s.1, .int .u64 s.2], .bool true]) ∧ Below wr.heap.size wr w' ∧ St w p L w' := by
  have h0 := h
  obtain ⟨F, ⟨v, X, h1, rfl⟩, h3⟩ := h
  refine (next_any h1 k (by omega)).mono ?_
  rintro e w' ⟨t, ok, rfl, h4, hb⟩
  rcases h4 with ⟨rfl, h5⟩ | ⟨_, _, h5⟩
  · rw [hs] at h5
    injection h5 with h5
    subst h5
    exact ⟨rfl, hb, h0.below hb⟩
  · rw [h5] at hs; cases hs
theorem or_next_no {w wr : World} {p : Nat} {L : IL} {k : Int} (h : St w p L wr) (hn : L.length ≤ 100) (hs : nextL L k = []) : Calls Try.prog 16 #[.pointer (some ⟨p, 0, none⟩), .int .u64 k] wr fun e w' => e = .returned (.tuple #[.agg #[.int .u64 0, .int .u64 0], .bool false]) ∧ Below wr.heap.size wr w' ∧ St w p L w' := by
  have h0 := h
  obtain ⟨F, ⟨v, X, h1, rfl⟩, h3⟩ := h
  refine (next_any h1 k (by omega)).mono ?_
  rintro e w' ⟨t, ok, rfl, h4, hb⟩
  rcases h4 with ⟨_, h5⟩ | ⟨rfl, rfl, _⟩
  · rw [hs] at h5; cases h5
  · exact ⟨rfl, hb, h0.below hb⟩
set_option maxRecDepth 100000 in
set_option maxHeartbeats 4000000 in
theorem order_law (ao : Option Addr) (ca : Nat) (l : List Int) (t : Int) (w : World) (hA : Rk w ao l) (kA : ∀ x ∈ l, 0 ≤ x ∧ x ≤ 18446744073709551615) (mA : l.length ≤ ca) (mB : ca ≤ maxLen) (t0 : 0 ≤ t) (t1 : t ≤ 255) :
    Calls Try.prog 6 #[.slice ao l.length ca, .int .u8 t] w fun e w' => e = .returned (.bool true) ∧ Below w.heap.size w w' := by
  have HA := Lib.hid (And.intro hA kA)
  unfold maxLen at mB
  clear hA kA
  by_cases h100 : l.length ≤ 100
  · obtain ⟨n, en⟩ : ∃ n, l.length = n := ⟨_, rfl⟩
    obtain ⟨K, eK⟩ : ∃ K, K = l := ⟨_, rfl⟩
    have EN := Lib.hid en
    have hn : n ≤ 100 := by omega
    rw [en] at mA ⊢
    clear h100 en
    go_enter Try.func6, Try.ntmps6
    go_upto_region 4 with (go_at_call 8; refine (awake_any w).mono ?_; rintro e wa ⟨rfl, hba⟩; have HB := Lib.hid hba; clear hba)
    have hRk : Rk wa ao K := by rw [eK]; exact HA.out.1.on HB.out
    have hK : K.length = n := by rw [eK]; exact EN.out
    have HK := Lib.hid (And.intro hK (And.intro hRk (show ∀ x ∈ K, 0 ≤ x ∧ x ≤ 18446744073709551615 by rw [eK]; exact HA.out.2)))
    clear eK hK hRk
    obtain ⟨T, hT⟩ : ∃ T : Nat, (t % ((n : Int) + 1)) = (T : Int) := ⟨(t % ((n : Int) + 1)).toNat, by have := Int.emod_nonneg t (show (n : Int) + 1 ≠ 0 by omega); omega⟩
    have hTn : T ≤ n := by have := Int.emod_lt_of_pos t (show (0 : Int) < (n : Int) + 1 by omega); omega
    go_wp2_with fail
    refine (st_new wa).mono ?_
    rintro e w1 ⟨rfl, h1⟩
    have H1 := Lib.hid h1
    clear h1
    go_wp2_with fail
    refine (st2_new H1.out).mono ?_
    rintro e w2 ⟨rfl, h2⟩
    have H2 := Lib.hid h2
    clear h2
    go_wp2_with fail
    rw [hT]
    clear hT
    obtain ⟨aa, ea⟩ : ∃ aa, aa = wa.heap.size := ⟨_, rfl⟩
    obtain ⟨bb, eb⟩ : ∃ bb, bb = w1.heap.size := ⟨_, rfl⟩
    have H3 := Lib.hid (show OrA wa aa bb K 0 w2 from by rw [ea, eb]; exact ⟨[], H2.out, by simp, by simp⟩)
    rw [← ea, ← eb]
    clear ea eb
    go_loopw [34] (fun u34 wr => ∃ i : Nat, i ≤ n ∧ u34 = .int .i64 i ∧ Hid (OrA wa aa bb K i wr)) (fun u34 _ => n - (intOf u34).toNat)
    case atStart => exact ⟨0, Nat.zero_le _, rfl, H3⟩
    case round =>
      obtain ⟨i, hi, rfl, I⟩ := hrel
      by_cases hlt : i < n
      · obtain ⟨q, hq, b, off, rfl, c1⟩ := HK.out.2.1.at_ I.out.ahead (i := i) (by have := HK.out.1; omega)
        have hq2 := HK.out.2.2 q (List.mem_of_getElem? hq)
        obtain ⟨q0, q1⟩ := hq2
        have HQ := Lib.hid hq
        have ii : (i : Int) < (n : Int) := by omega
        clear hq
        go_wp2_with (go_at_call 10; refine (OrA.put (show Hid (OrA wa aa bb K i wr) from I).out q HQ.out (by omega)).mono ?_; rintro e w3 ⟨rfl, h3⟩; have H4 := Lib.hid h3; clear h3)
        go_roundw
        case rel => exact ⟨i + 1, by omega, by go_num, H4⟩
        case measure => simp [intOf]; omega
      · obtain rfl : i = n := by omega
        have H5 := Lib.hid (show OrB wa aa bb K T i 0 wr from I.out.turn)
        clear I
        go_wp2_with fail
        go_loopw [47] (fun u47 wr => ∃ j : Nat, j ≤ i ∧ u47 = .int .i64 j ∧ Hid (OrB wa aa bb K T i j wr)) (fun u47 _ => i - (intOf u47).toNat)
        case atStart => exact ⟨0, Nat.zero_le _, rfl, H5⟩
        case round =>
          obtain ⟨j, hj, rfl, J⟩ := hrel
          by_cases hlt2 : j < i
          · obtain ⟨m, hm⟩ : ∃ m : Nat, (T + j) % i = m := ⟨_, rfl⟩
            have hmi : m < i := by rw [← hm]; exact Nat.mod_lt _ (by omega)
            have im : ((T : Int) + (j : Int)) % (i : Int) = (m : Int) := by rw [← hm]; push_cast; rfl
            obtain ⟨q, hq, b, off, rfl, c1⟩ := HK.out.2.1.at_ J.out.ahead (i := m) (by have := HK.out.1; omega)
            have hq2 := HK.out.2.2 q (List.mem_of_getElem? hq)
            obtain ⟨q0, q1⟩ := hq2
            have HQ := Lib.hid (And.intro hq hm)
            have ij : (j : Int) < (i : Int) := by omega
            have imi : (m : Int) < (i : Int) := by omega
            have i0 : ((i : Int) == 0) = false := beq_eq_false_iff_ne.2 (by omega)
            have im0 : (0 : Int) ≤ (m : Int) := by omega
            clear hq hm
            go_wp2_with (go_at_call 10; refine (OrB.put (show Hid (OrB wa aa bb K T i j wr) from J).out HQ.out.2 q HQ.out.1 (by omega)).mono ?_; rintro e w3 ⟨rfl, h3⟩; have H4 := Lib.hid h3; clear h3)
            go_roundw
            case rel => exact ⟨j + 1, by omega, by go_num, H4⟩
            case measure => simp [intOf]; omega
          · obtain rfl : j = i := by omega
            obtain ⟨L, hC, hS⟩ := J.out.both HK.out.1 HK.out.2.2 hTn hn
            have HC := Lib.hid hC
            have HS := Lib.hid hS
            clear hC hS J
            generalize wr = wb at *
            go_wp2_with fail
            refine (or_range HS.out HC.out).mono ?_
            rintro e w4 ⟨al, cl, rfl, hl4, hcl, hs4, hb4⟩
            have HS4 := Lib.hid hs4
            have HL4 := Lib.hid hl4
            clear hs4 hl4 hb4
            go_wp2_with fail
            refine (or_range HS4.out.swap HC.out).mono ?_
            rintro e w5 ⟨am, cm5, rfl, hm5, hcm, hs5, hb5⟩
            have HS5 := Lib.hid hs5.swap.one
            have HR := Lib.hid (And.intro (HL4.out.on hb5) hm5)
            clear hs5 hm5 hb5
            go_wp2_with fail
            refine (st_len HS5.out).mono ?_
            rintro e _ ⟨rfl, rfl⟩
            obtain ⟨N, hN⟩ : ∃ N, L.length = N := ⟨_, rfl⟩
            have hN9 : N ≤ 100 := by rw [← hN]; exact HC.out.len
            rw [hN]
            rw [hN] at hcl hcm
            have HN := Lib.hid hN
            clear hN
            go_wp2_with fail
            go_loopw [84] (fun u84 wr => ∃ i : Nat, i ≤ N ∧ u84 = .int .i64 i ∧ Hid (OrS wa aa L al am wr)) (fun u84 _ => N - (intOf u84).toNat)
            case atStart => exact ⟨0, Nat.zero_le _, rfl, Lib.hid ⟨HS5.out, HR.out⟩⟩
            case round =>
              obtain ⟨i, hi, rfl, J⟩ := hrel
              by_cases hlt3 : i < N
              · have he := getD_at L i (0, 0) (by have := HN.out; omega)
                obtain ⟨q, eq⟩ : ∃ q, q = L.getD i (0, 0) := ⟨_, rfl⟩
                rw [← eq] at he
                obtain ⟨gl, rfl, gl9, c1, c2⟩ := J.out.2.1 i q he
                obtain ⟨gm, rfl, gm9, d1, d2⟩ := J.out.2.2 i q he
                have hqm := List.mem_of_getElem? he
                have hv : (q.2 != bits BinOp.xor IntKind.u64 IntKind.u64.max q.1) = false := by have := HC.out.val q hqm; unfold cm at this; simp [this]
                have hv2 : (q.2 != bits BinOp.xor IntKind.u64 (if IntKind.u64.signed = true then -1 else IntKind.u64.max) q.1) = false := hv
                obtain ⟨k0, k1⟩ := HC.out.key q hqm
                have hneq := run_neq42 q.1 q.2 q.1 q.2
                have hqq : (!(q.1 == q.1 && q.2 == q.2)) = false := by simp
                rw [hqq] at hneq
                have ii : (i : Int) < (N : Int) := by omega
                have HE := Lib.hid (And.intro he hqm)
                clear he eq hqm hqq
                by_cases hi0 : 0 < i
                · have hp := getD_at L (i - 1) (0, 0) (by have := HN.out; omega)
                  obtain ⟨r, er⟩ : ∃ r, r = L.getD (i - 1) (0, 0) := ⟨_, rfl⟩
                  rw [← er] at hp
                  obtain ⟨gp, egp, _, p1, p2⟩ := J.out.2.1 (i - 1) r hp
                  simp only [Option.some.injEq, Addr.mk.injEq, and_true] at egp
                  subst egp
                  have hrq : ¬ q.1 ≤ r.1 := by
                    have := sorted_get HC.out.up (show i - 1 < i by omega) (by have := HN.out; omega)
                    rw [← er, show L.getD i (0, 0) = q by simp [HE.out.1]] at this
                    omega
                  have i0 : (0 : Int) < (i : Int) := by omega
                  have ip1 : (i : Int) - 1 = ((i - 1 : Nat) : Int) := by omega
                  have ip2 : ((i - 1 : Nat) : Int) < (N : Int) := by omega
                  have w1 : IntKind.i64.wrap ((i : Int) - 1) = ((i - 1 : Nat) : Int) := by rw [ip1]; exact IntWalk.i64_in _ (by omega)
                  have dq : decide (q.1 ≤ r.1) = false := by simpa using hrq
                  have di : decide ((0 : Int) < (i : Int)) = true := by simpa using i0
                  clear hp er
                  go_wp2_with fail
                  go_quiet (fail)
                  generalize nq = n1 at *
                  by_cases hmx : q.1 = 18446744073709551615
                  · have hmx1 : (q.1 == 18446744073709551615) = true := by simpa using hmx
                    go_wp2_with fail
                    go_roundw
                    case rel => exact ⟨i + 1, by omega, by go_num, Lib.hid (J.out.drew n1)⟩
                    case measure => simp [intOf]; omega
                  · have hmx1 : (q.1 == 18446744073709551615) = false := by simpa using hmx
                    have k2 : q.1 + 1 ≤ 18446744073709551615 := by omega
                    obtain ⟨iu, eiu⟩ : ∃ iu : Nat, iu = i + 1 := ⟨_, rfl⟩
                    have wiu : IntKind.i64.wrap ((i : Int) + 1) = (iu : Int) := by rw [IntWalk.i64_in _ (by omega)]; omega
                    have iiu : (i : Int) + 1 = (iu : Int) := by omega
                    have hnx := next_after HC.out.up HE.out.1
                    rw [← eiu] at hnx
                    have EI := Lib.hid eiu
                    by_cases hiu : iu < N
                    · have hs := getD_at L iu (0, 0) (by have := HN.out; omega)
                      obtain ⟨s, es⟩ : ∃ s, s = L.getD iu (0, 0) := ⟨_, rfl⟩
                      rw [← es] at hs
                      have HNX := Lib.hid (show (nextL L (q.1 + 1)).head? = some s by
                        rw [hnx, List.head?_drop]; exact hs)
                      obtain ⟨gs, egs, _, s1, s2⟩ := J.out.2.1 iu s hs
                      simp only [Option.some.injEq, Addr.mk.injEq, and_true] at egs
                      subst egs
                      have iu0 : (iu : Int) < (N : Int) := by omega
                      have diu : decide ((iu : Int) < (N : Int)) = true := by simpa using hiu
                      clear hnx es hs eiu
                      go_upto_region 29 with (go_at_call 16; refine (or_next_yes (J.out.drew n1).1 HC.out.len HNX.out).mono ?_; rintro e w8 ⟨rfl, hb8, h8⟩; have H8 := Lib.hid h8; have HB8 := Lib.hid hb8; clear h8 hb8)
                      have hneq2 := run_neq42 s.1 s.2 s.1 s.2
                      have hss : (!(s.1 == s.1 && s.2 == s.2)) = false := by simp
                      rw [hss] at hneq2
                      have J8 := Lib.hid (J.out.step n1 HB8.out H8.out s)
                      have s3 : (w8.alloc (.cells #[.int .u64 s.1, .int .u64 s.2] 42)).cell? ⟨gl, iu * 2, none⟩ = some (.int .u64 s.1) := keep8 s1 (by assumption) HB8.out _
                      have s4 : (w8.alloc (.cells #[.int .u64 s.1, .int .u64 s.2] 42)).cell? ⟨gl, iu * 2 + 1, none⟩ = some (.int .u64 s.2) := keep8 s2 (by assumption) HB8.out _
                      have z1 : (w8.alloc (.cells #[.int .u64 s.1, .int .u64 s.2] 42)).cell? ⟨w8.heap.size, 0, none⟩ = some (.int .u64 s.1) := by rw [World.cell?_alloc_new]; rfl
                      have z2 : (w8.alloc (.cells #[.int .u64 s.1, .int .u64 s.2] 42)).cell? ⟨w8.heap.size, 1, none⟩ = some (.int .u64 s.2) := by rw [World.cell?_alloc_new]; rfl
                      clear hss
                      go_quiet (fail)
                      go_wp2_with fail
                      go_roundw
                      case rel => exact ⟨i + 1, by omega, by go_num, Lib.hid (J8.out.drew nq)⟩
                      case measure => simp [intOf]; omega
                    · have HNX := Lib.hid (show nextL L (q.1 + 1) = [] by rw [hnx]; exact List.drop_eq_nil_of_le (by have := HN.out; omega))
                      have iu0 : ¬ (iu : Int) < (N : Int) := by omega
                      have diu : decide ((iu : Int) < (N : Int)) = false := by simpa using hiu
                      clear hnx eiu
                      go_upto_region 29 with (go_at_call 16; refine (or_next_no (J.out.drew n1).1 HC.out.len HNX.out).mono ?_; rintro e w8 ⟨rfl, hb8, h8⟩; have H8 := Lib.hid h8; have HB8 := Lib.hid hb8; clear h8 hb8)
                      have J8 := Lib.hid (J.out.step n1 HB8.out H8.out (0, 0))
                      go_quiet (fail)
                      go_wp2_with fail
                      go_roundw
                      case rel => exact ⟨i + 1, by omega, by go_num, Lib.hid (J8.out.drew nq)⟩
                      case measure => simp [intOf]; omega
                · have di : decide ((0 : Int) < (i : Int)) = false := by simpa using hi0
                  go_wp2_with fail
                  go_quiet (fail)
                  generalize nq = n1 at *
                  by_cases hmx : q.1 = 18446744073709551615
                  · have hmx1 : (q.1 == 18446744073709551615) = true := by simpa using hmx
                    go_wp2_with fail
                    go_roundw
                    case rel => exact ⟨i + 1, by omega, by go_num, Lib.hid (J.out.drew n1)⟩
                    case measure => simp [intOf]; omega
                  · have hmx1 : (q.1 == 18446744073709551615) = false := by simpa using hmx
                    have k2 : q.1 + 1 ≤ 18446744073709551615 := by omega
                    obtain ⟨iu, eiu⟩ : ∃ iu : Nat, iu = i + 1 := ⟨_, rfl⟩
                    have wiu : IntKind.i64.wrap ((i : Int) + 1) = (iu : Int) := by rw [IntWalk.i64_in _ (by omega)]; omega
                    have iiu : (i : Int) + 1 = (iu : Int) := by omega
                    have hnx := next_after HC.out.up HE.out.1
                    rw [← eiu] at hnx
                    have EI := Lib.hid eiu
                    by_cases hiu : iu < N
                    · have hs := getD_at L iu (0, 0) (by have := HN.out; omega)
                      obtain ⟨s, es⟩ : ∃ s, s = L.getD iu (0, 0) := ⟨_, rfl⟩
                      rw [← es] at hs
                      have HNX := Lib.hid (show (nextL L (q.1 + 1)).head? = some s by
                        rw [hnx, List.head?_drop]; exact hs)
                      obtain ⟨gs, egs, _, s1, s2⟩ := J.out.2.1 iu s hs
                      simp only [Option.some.injEq, Addr.mk.injEq, and_true] at egs
                      subst egs
                      have iu0 : (iu : Int) < (N : Int) := by omega
                      have diu : decide ((iu : Int) < (N : Int)) = true := by simpa using hiu
                      clear hnx es hs eiu
                      go_upto_region 29 with (go_at_call 16; refine (or_next_yes (J.out.drew n1).1 HC.out.len HNX.out).mono ?_; rintro e w8 ⟨rfl, hb8, h8⟩; have H8 := Lib.hid h8; have HB8 := Lib.hid hb8; clear h8 hb8)
                      have hneq2 := run_neq42 s.1 s.2 s.1 s.2
                      have hss : (!(s.1 == s.1 && s.2 == s.2)) = false := by simp
                      rw [hss] at hneq2
                      have J8 := Lib.hid (J.out.step n1 HB8.out H8.out s)
                      have s3 : (w8.alloc (.cells #[.int .u64 s.1, .int .u64 s.2] 42)).cell? ⟨gl, iu * 2, none⟩ = some (.int .u64 s.1) := keep8 s1 (by assumption) HB8.out _
                      have s4 : (w8.alloc (.cells #[.int .u64 s.1, .int .u64 s.2] 42)).cell? ⟨gl, iu * 2 + 1, none⟩ = some (.int .u64 s.2) := keep8 s2 (by assumption) HB8.out _
                      have z1 : (w8.alloc (.cells #[.int .u64 s.1, .int .u64 s.2] 42)).cell? ⟨w8.heap.size, 0, none⟩ = some (.int .u64 s.1) := by rw [World.cell?_alloc_new]; rfl
                      have z2 : (w8.alloc (.cells #[.int .u64 s.1, .int .u64 s.2] 42)).cell? ⟨w8.heap.size, 1, none⟩ = some (.int .u64 s.2) := by rw [World.cell?_alloc_new]; rfl
                      clear hss
                      go_quiet (fail)
                      go_wp2_with fail
                      go_roundw
                      case rel => exact ⟨i + 1, by omega, by go_num, Lib.hid (J8.out.drew nq)⟩
                      case measure => simp [intOf]; omega
                    · have HNX := Lib.hid (show nextL L (q.1 + 1) = [] by rw [hnx]; exact List.drop_eq_nil_of_le (by have := HN.out; omega))
                      have iu0 : ¬ (iu : Int) < (N : Int) := by omega
                      have diu : decide ((iu : Int) < (N : Int)) = false := by simpa using hiu
                      clear hnx eiu
                      go_upto_region 29 with (go_at_call 16; refine (or_next_no (J.out.drew n1).1 HC.out.len HNX.out).mono ?_; rintro e w8 ⟨rfl, hb8, h8⟩; have H8 := Lib.hid h8; have HB8 := Lib.hid hb8; clear h8 hb8)
                      have J8 := Lib.hid (J.out.step n1 HB8.out H8.out (0, 0))
                      go_quiet (fail)
                      go_wp2_with fail
                      go_roundw
                      case rel => exact ⟨i + 1, by omega, by go_num, Lib.hid (J8.out.drew nq)⟩
                      case measure => simp [intOf]; omega
              · obtain rfl : i = N := by omega
                go_wp2_with fail
                go_ret
                exact ⟨rfl, HB.out.trans (J.out.1.ahead.mono HB.out.size)⟩
  · obtain ⟨n, en⟩ : ∃ n : Nat, n = 100 := ⟨_, rfl⟩
    obtain ⟨K, eK⟩ : ∃ K, K = l.take 100 := ⟨_, rfl⟩
    have l2 : (100 : Int) < (l.length : Int) := by omega
    have hn : n ≤ 100 := by omega
    have hk0 : K.length = n := by rw [eK, List.length_take]; omega
    have HK0 := Lib.hid (And.intro hk0 eK)
    clear h100 hk0 eK
    have EN := Lib.hid en
    clear en
    go_enter Try.func6, Try.ntmps6
    go_upto_region 4 with (go_at_call 8; refine (awake_any w).mono ?_; rintro e wa ⟨rfl, hba⟩; have HB := Lib.hid hba; clear hba)
    have hRk : Rk wa ao K := by rw [HK0.out.2]; exact (HA.out.1.on HB.out).take 100
    have HK := Lib.hid (And.intro HK0.out.1 (And.intro hRk (show ∀ x ∈ K, 0 ≤ x ∧ x ≤ 18446744073709551615 by rw [HK0.out.2]; exact fun x hx => HA.out.2 x (List.mem_of_mem_take hx))))
    clear hRk
    rw [show Value.slice ao 100 ca = Value.slice ao n ca by rw [EN.out]]
    obtain ⟨T, hT⟩ : ∃ T : Nat, (t % ((n : Int) + 1)) = (T : Int) := ⟨(t % ((n : Int) + 1)).toNat, by have := Int.emod_nonneg t (show (n : Int) + 1 ≠ 0 by omega); omega⟩
    have hTn : T ≤ n := by have := Int.emod_lt_of_pos t (show (0 : Int) < (n : Int) + 1 by omega); omega
    go_wp2_with fail
    refine (st_new wa).mono ?_
    rintro e w1 ⟨rfl, h1⟩
    have H1 := Lib.hid h1
    clear h1
    go_wp2_with fail
    refine (st2_new H1.out).mono ?_
    rintro e w2 ⟨rfl, h2⟩
    have H2 := Lib.hid h2
    clear h2
    go_wp2_with fail
    rw [hT]
    clear hT
    obtain ⟨aa, ea⟩ : ∃ aa, aa = wa.heap.size := ⟨_, rfl⟩
    obtain ⟨bb, eb⟩ : ∃ bb, bb = w1.heap.size := ⟨_, rfl⟩
    have H3 := Lib.hid (show OrA wa aa bb K 0 w2 from by rw [ea, eb]; exact ⟨[], H2.out, by simp, by simp⟩)
    rw [← ea, ← eb]
    clear ea eb
    go_loopw [34] (fun u34 wr => ∃ i : Nat, i ≤ n ∧ u34 = .int .i64 i ∧ Hid (OrA wa aa bb K i wr)) (fun u34 _ => n - (intOf u34).toNat)
    case atStart => exact ⟨0, Nat.zero_le _, rfl, H3⟩
    case round =>
      obtain ⟨i, hi, rfl, I⟩ := hrel
      by_cases hlt : i < n
      · obtain ⟨q, hq, b, off, rfl, c1⟩ := HK.out.2.1.at_ I.out.ahead (i := i) (by have := HK.out.1; omega)
        have hq2 := HK.out.2.2 q (List.mem_of_getElem? hq)
        obtain ⟨q0, q1⟩ := hq2
        have HQ := Lib.hid hq
        have ii : (i : Int) < (n : Int) := by omega
        clear hq
        go_wp2_with (go_at_call 10; refine (OrA.put (show Hid (OrA wa aa bb K i wr) from I).out q HQ.out (by omega)).mono ?_; rintro e w3 ⟨rfl, h3⟩; have H4 := Lib.hid h3; clear h3)
        go_roundw
        case rel => exact ⟨i + 1, by omega, by go_num, H4⟩
        case measure => simp [intOf]; omega
      · obtain rfl : i = n := by omega
        have H5 := Lib.hid (show OrB wa aa bb K T i 0 wr from I.out.turn)
        clear I
        go_wp2_with fail
        go_loopw [47] (fun u47 wr => ∃ j : Nat, j ≤ i ∧ u47 = .int .i64 j ∧ Hid (OrB wa aa bb K T i j wr)) (fun u47 _ => i - (intOf u47).toNat)
        case atStart => exact ⟨0, Nat.zero_le _, rfl, H5⟩
        case round =>
          obtain ⟨j, hj, rfl, J⟩ := hrel
          by_cases hlt2 : j < i
          · obtain ⟨m, hm⟩ : ∃ m : Nat, (T + j) % i = m := ⟨_, rfl⟩
            have hmi : m < i := by rw [← hm]; exact Nat.mod_lt _ (by omega)
            have im : ((T : Int) + (j : Int)) % (i : Int) = (m : Int) := by rw [← hm]; push_cast; rfl
            obtain ⟨q, hq, b, off, rfl, c1⟩ := HK.out.2.1.at_ J.out.ahead (i := m) (by have := HK.out.1; omega)
            have hq2 := HK.out.2.2 q (List.mem_of_getElem? hq)
            obtain ⟨q0, q1⟩ := hq2
            have HQ := Lib.hid (And.intro hq hm)
            have ij : (j : Int) < (i : Int) := by omega
            have imi : (m : Int) < (i : Int) := by omega
            have i0 : ((i : Int) == 0) = false := beq_eq_false_iff_ne.2 (by omega)
            have im0 : (0 : Int) ≤ (m : Int) := by omega
            clear hq hm
            go_wp2_with (go_at_call 10; refine (OrB.put (show Hid (OrB wa aa bb K T i j wr) from J).out HQ.out.2 q HQ.out.1 (by omega)).mono ?_; rintro e w3 ⟨rfl, h3⟩; have H4 := Lib.hid h3; clear h3)
            go_roundw
            case rel => exact ⟨j + 1, by omega, by go_num, H4⟩
            case measure => simp [intOf]; omega
          · obtain rfl : j = i := by omega
            obtain ⟨L, hC, hS⟩ := J.out.both HK.out.1 HK.out.2.2 hTn hn
            have HC := Lib.hid hC
            have HS := Lib.hid hS
            clear hC hS J
            generalize wr = wb at *
            go_wp2_with fail
            refine (or_range HS.out HC.out).mono ?_
            rintro e w4 ⟨al, cl, rfl, hl4, hcl, hs4, hb4⟩
            have HS4 := Lib.hid hs4
            have HL4 := Lib.hid hl4
            clear hs4 hl4 hb4
            go_wp2_with fail
            refine (or_range HS4.out.swap HC.out).mono ?_
            rintro e w5 ⟨am, cm5, rfl, hm5, hcm, hs5, hb5⟩
            have HS5 := Lib.hid hs5.swap.one
            have HR := Lib.hid (And.intro (HL4.out.on hb5) hm5)
            clear hs5 hm5 hb5
            go_wp2_with fail
            refine (st_len HS5.out).mono ?_
            rintro e _ ⟨rfl, rfl⟩
            obtain ⟨N, hN⟩ : ∃ N, L.length = N := ⟨_, rfl⟩
            have hN9 : N ≤ 100 := by rw [← hN]; exact HC.out.len
            rw [hN]
            rw [hN] at hcl hcm
            have HN := Lib.hid hN
            clear hN
            go_wp2_with fail
            go_loopw [84] (fun u84 wr => ∃ i : Nat, i ≤ N ∧ u84 = .int .i64 i ∧ Hid (OrS wa aa L al am wr)) (fun u84 _ => N - (intOf u84).toNat)
            case atStart => exact ⟨0, Nat.zero_le _, rfl, Lib.hid ⟨HS5.out, HR.out⟩⟩
            case round =>
              obtain ⟨i, hi, rfl, J⟩ := hrel
              by_cases hlt3 : i < N
              · have he := getD_at L i (0, 0) (by have := HN.out; omega)
                obtain ⟨q, eq⟩ : ∃ q, q = L.getD i (0, 0) := ⟨_, rfl⟩
                rw [← eq] at he
                obtain ⟨gl, rfl, gl9, c1, c2⟩ := J.out.2.1 i q he
                obtain ⟨gm, rfl, gm9, d1, d2⟩ := J.out.2.2 i q he
                have hqm := List.mem_of_getElem? he
                have hv : (q.2 != bits BinOp.xor IntKind.u64 IntKind.u64.max q.1) = false := by have := HC.out.val q hqm; unfold cm at this; simp [this]
                have hv2 : (q.2 != bits BinOp.xor IntKind.u64 (if IntKind.u64.signed = true then -1 else IntKind.u64.max) q.1) = false := hv
                obtain ⟨k0, k1⟩ := HC.out.key q hqm
                have hneq := run_neq42 q.1 q.2 q.1 q.2
                have hqq : (!(q.1 == q.1 && q.2 == q.2)) = false := by simp
                rw [hqq] at hneq
                have ii : (i : Int) < (N : Int) := by omega
                have HE := Lib.hid (And.intro he hqm)
                clear he eq hqm hqq
                by_cases hi0 : 0 < i
                · have hp := getD_at L (i - 1) (0, 0) (by have := HN.out; omega)
                  obtain ⟨r, er⟩ : ∃ r, r = L.getD (i - 1) (0, 0) := ⟨_, rfl⟩
                  rw [← er] at hp
                  obtain ⟨gp, egp, _, p1, p2⟩ := J.out.2.1 (i - 1) r hp
                  simp only [Option.some.injEq, Addr.mk.injEq, and_true] at egp
                  subst egp
                  have hrq : ¬ q.1 ≤ r.1 := by
                    have := sorted_get HC.out.up (show i - 1 < i by omega) (by have := HN.out; omega)
                    rw [← er, show L.getD i (0, 0) = q by simp [HE.out.1]] at this
                    omega
                  have i0 : (0 : Int) < (i : Int) := by omega
                  have ip1 : (i : Int) - 1 = ((i - 1 : Nat) : Int) := by omega
                  have ip2 : ((i - 1 : Nat) : Int) < (N : Int) := by omega
                  have w1 : IntKind.i64.wrap ((i : Int) - 1) = ((i - 1 : Nat) : Int) := by rw [ip1]; exact IntWalk.i64_in _ (by omega)
                  have dq : decide (q.1 ≤ r.1) = false := by simpa using hrq
                  have di : decide ((0 : Int) < (i : Int)) = true := by simpa using i0
                  clear hp er
                  go_wp2_with fail
                  go_quiet (fail)
                  generalize nq = n1 at *
                  by_cases hmx : q.1 = 18446744073709551615
                  · have hmx1 : (q.1 == 18446744073709551615) = true := by simpa using hmx
                    go_wp2_with fail
                    go_roundw
                    case rel => exact ⟨i + 1, by omega, by go_num, Lib.hid (J.out.drew n1)⟩
                    case measure => simp [intOf]; omega
                  · have hmx1 : (q.1 == 18446744073709551615) = false := by simpa using hmx
                    have k2 : q.1 + 1 ≤ 18446744073709551615 := by omega
                    obtain ⟨iu, eiu⟩ : ∃ iu : Nat, iu = i + 1 := ⟨_, rfl⟩
                    have wiu : IntKind.i64.wrap ((i : Int) + 1) = (iu : Int) := by rw [IntWalk.i64_in _ (by omega)]; omega
                    have iiu : (i : Int) + 1 = (iu : Int) := by omega
                    have hnx := next_after HC.out.up HE.out.1
                    rw [← eiu] at hnx
                    have EI := Lib.hid eiu
                    by_cases hiu : iu < N
                    · have hs := getD_at L iu (0, 0) (by have := HN.out; omega)
                      obtain ⟨s, es⟩ : ∃ s, s = L.getD iu (0, 0) := ⟨_, rfl⟩
                      rw [← es] at hs
                      have HNX := Lib.hid (show (nextL L (q.1 + 1)).head? = some s by
                        rw [hnx, List.head?_drop]; exact hs)
                      obtain ⟨gs, egs, _, s1, s2⟩ := J.out.2.1 iu s hs
                      simp only [Option.some.injEq, Addr.mk.injEq, and_true] at egs
                      subst egs
                      have iu0 : (iu : Int) < (N : Int) := by omega
                      have diu : decide ((iu : Int) < (N : Int)) = true := by simpa using hiu
                      clear hnx es hs eiu
                      go_upto_region 29 with (go_at_call 16; refine (or_next_yes (J.out.drew n1).1 HC.out.len HNX.out).mono ?_; rintro e w8 ⟨rfl, hb8, h8⟩; have H8 := Lib.hid h8; have HB8 := Lib.hid hb8; clear h8 hb8)
                      have hneq2 := run_neq42 s.1 s.2 s.1 s.2
                      have hss : (!(s.1 == s.1 && s.2 == s.2)) = false := by simp
                      rw [hss] at hneq2
                      have J8 := Lib.hid (J.out.step n1 HB8.out H8.out s)
                      have s3 : (w8.alloc (.cells #[.int .u64 s.1, .int .u64 s.2] 42)).cell? ⟨gl, iu * 2, none⟩ = some (.int .u64 s.1) := keep8 s1 (by assumption) HB8.out _
                      have s4 : (w8.alloc (.cells #[.int .u64 s.1, .int .u64 s.2] 42)).cell? ⟨gl, iu * 2 + 1, none⟩ = some (.int .u64 s.2) := keep8 s2 (by assumption) HB8.out _
                      have z1 : (w8.alloc (.cells #[.int .u64 s.1, .int .u64 s.2] 42)).cell? ⟨w8.heap.size, 0, none⟩ = some (.int .u64 s.1) := by rw [World.cell?_alloc_new]; rfl
                      have z2 : (w8.alloc (.cells #[.int .u64 s.1, .int .u64 s.2] 42)).cell? ⟨w8.heap.size, 1, none⟩ = some (.int .u64 s.2) := by rw [World.cell?_alloc_new]; rfl
                      clear hss
                      go_quiet (fail)
                      go_wp2_with fail
                      go_roundw
                      case rel => exact ⟨i + 1, by omega, by go_num, Lib.hid (J8.out.drew nq)⟩
                      case measure => simp [intOf]; omega
                    · have HNX := Lib.hid (show nextL L (q.1 + 1) = [] by rw [hnx]; exact List.drop_eq_nil_of_le (by have := HN.out; omega))
                      have iu0 : ¬ (iu : Int) < (N : Int) := by omega
                      have diu : decide ((iu : Int) < (N : Int)) = false := by simpa using hiu
                      clear hnx eiu
                      go_upto_region 29 with (go_at_call 16; refine (or_next_no (J.out.drew n1).1 HC.out.len HNX.out).mono ?_; rintro e w8 ⟨rfl, hb8, h8⟩; have H8 := Lib.hid h8; have HB8 := Lib.hid hb8; clear h8 hb8)
                      have J8 := Lib.hid (J.out.step n1 HB8.out H8.out (0, 0))
                      go_quiet (fail)
                      go_wp2_with fail
                      go_roundw
                      case rel => exact ⟨i + 1, by omega, by go_num, Lib.hid (J8.out.drew nq)⟩
                      case measure => simp [intOf]; omega
                · have di : decide ((0 : Int) < (i : Int)) = false := by simpa using hi0
                  go_wp2_with fail
                  go_quiet (fail)
                  generalize nq = n1 at *
                  by_cases hmx : q.1 = 18446744073709551615
                  · have hmx1 : (q.1 == 18446744073709551615) = true := by simpa using hmx
                    go_wp2_with fail
                    go_roundw
                    case rel => exact ⟨i + 1, by omega, by go_num, Lib.hid (J.out.drew n1)⟩
                    case measure => simp [intOf]; omega
                  · have hmx1 : (q.1 == 18446744073709551615) = false := by simpa using hmx
                    have k2 : q.1 + 1 ≤ 18446744073709551615 := by omega
                    obtain ⟨iu, eiu⟩ : ∃ iu : Nat, iu = i + 1 := ⟨_, rfl⟩
                    have wiu : IntKind.i64.wrap ((i : Int) + 1) = (iu : Int) := by rw [IntWalk.i64_in _ (by omega)]; omega
                    have iiu : (i : Int) + 1 = (iu : Int) := by omega
                    have hnx := next_after HC.out.up HE.out.1
                    rw [← eiu] at hnx
                    have EI := Lib.hid eiu
                    by_cases hiu : iu < N
                    · have hs := getD_at L iu (0, 0) (by have := HN.out; omega)
                      obtain ⟨s, es⟩ : ∃ s, s = L.getD iu (0, 0) := ⟨_, rfl⟩
                      rw [← es] at hs
                      have HNX := Lib.hid (show (nextL L (q.1 + 1)).head? = some s by
                        rw [hnx, List.head?_drop]; exact hs)
                      obtain ⟨gs, egs, _, s1, s2⟩ := J.out.2.1 iu s hs
                      simp only [Option.some.injEq, Addr.mk.injEq, and_true] at egs
                      subst egs
                      have iu0 : (iu : Int) < (N : Int) := by omega
                      have diu : decide ((iu : Int) < (N : Int)) = true := by simpa using hiu
                      clear hnx es hs eiu
                      go_upto_region 29 with (go_at_call 16; refine (or_next_yes (J.out.drew n1).1 HC.out.len HNX.out).mono ?_; rintro e w8 ⟨rfl, hb8, h8⟩; have H8 := Lib.hid h8; have HB8 := Lib.hid hb8; clear h8 hb8)
                      have hneq2 := run_neq42 s.1 s.2 s.1 s.2
                      have hss : (!(s.1 == s.1 && s.2 == s.2)) = false := by simp
                      rw [hss] at hneq2
                      have J8 := Lib.hid (J.out.step n1 HB8.out H8.out s)
                      have s3 : (w8.alloc (.cells #[.int .u64 s.1, .int .u64 s.2] 42)).cell? ⟨gl, iu * 2, none⟩ = some (.int .u64 s.1) := keep8 s1 (by assumption) HB8.out _
                      have s4 : (w8.alloc (.cells #[.int .u64 s.1, .int .u64 s.2] 42)).cell? ⟨gl, iu * 2 + 1, none⟩ = some (.int .u64 s.2) := keep8 s2 (by assumption) HB8.out _
                      have z1 : (w8.alloc (.cells #[.int .u64 s.1, .int .u64 s.2] 42)).cell? ⟨w8.heap.size, 0, none⟩ = some (.int .u64 s.1) := by rw [World.cell?_alloc_new]; rfl
                      have z2 : (w8.alloc (.cells #[.int .u64 s.1, .int .u64 s.2] 42)).cell? ⟨w8.heap.size, 1, none⟩ = some (.int .u64 s.2) := by rw [World.cell?_alloc_new]; rfl
                      clear hss
                      go_quiet (fail)
                      go_wp2_with fail
                      go_roundw
                      case rel => exact ⟨i + 1, by omega, by go_num, Lib.hid (J8.out.drew nq)⟩
                      case measure => simp [intOf]; omega
                    · have HNX := Lib.hid (show nextL L (q.1 + 1) = [] by rw [hnx]; exact List.drop_eq_nil_of_le (by have := HN.out; omega))
                      have iu0 : ¬ (iu : Int) < (N : Int) := by omega
                      have diu : decide ((iu : Int) < (N : Int)) = false := by simpa using hiu
                      clear hnx eiu
                      go_upto_region 29 with (go_at_call 16; refine (or_next_no (J.out.drew n1).1 HC.out.len HNX.out).mono ?_; rintro e w8 ⟨rfl, hb8, h8⟩; have H8 := Lib.hid h8; have HB8 := Lib.hid hb8; clear h8 hb8)
                      have J8 := Lib.hid (J.out.step n1 HB8.out H8.out (0, 0))
                      go_quiet (fail)
                      go_wp2_with fail
                      go_roundw
                      case rel => exact ⟨i + 1, by omega, by go_num, Lib.hid (J8.out.drew nq)⟩
                      case measure => simp [intOf]; omega
              · obtain rfl : i = N := by omega
                go_wp2_with fail
                go_ret
                exact ⟨rfl, HB.out.trans (J.out.1.ahead.mono HB.out.size)⟩
end Go.Proofs.Ythjcohaldjfniaa.Ix
