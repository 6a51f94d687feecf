/- index: a nil index, and one that is full, walked. -/
import Derived.Test.YthjcohaldjfniaaK2
namespace Go.Proofs.Ythjcohaldjfniaa.Ix
open Go Go.RowKit
open Pq (Pg pv fq)
open It (fl)
def Ev (v : Int) : Nat → IL
  | 0 => []
  | n + 1 => Ev v n ++ [(2 * (n : Int), v)]
theorem ev_len (v : Int) (n : Nat) : (Ev v n).length = n := by
  induction n with
  | zero => rfl
  | succ n ih => rw [Ev, List.length_append, ih]; rfl
theorem ev_key (v : Int) (n : Nat) : ∀ e ∈ Ev v n, e.1 % 2 = 0 ∧ e.1 < 2 * (n : Int) := by
  induction n with
  | zero => simp [Ev]
  | succ n ih =>
    intro e he
    rw [Ev, List.mem_append] at he
    rcases he with he | he
    · have := ih e he; omega
    · simp at he; subst he; simp; omega
theorem ev_put (v : Int) (n : Nat) : putL (Ev v n) (2 * (n : Int)) v = Ev v (n + 1) := by
  have := put_split (A := Ev v n) (D := []) (C := []) (k := 2 * (n : Int)) (u := v) (fun e he => (ev_key v n e he).2) (by simp) (by simp)
  simpa [Ev] using this
theorem ev_split (v : Int) (n : Nat) : ∃ C, Ev v (n + 3) = [(0, v), (2, v)] ++ [(4, v)] ++ C ∧ (∀ e ∈ C, 4 < e.1) ∧ C.length = n := by
  induction n with
  | zero => exact ⟨[], by simp [Ev], by simp, rfl⟩
  | succ n ih =>
    obtain ⟨C, h1, h2, h3⟩ := ih
    refine ⟨C ++ [(2 * ((n + 3 : Nat) : Int), v)], ?_, ?_, by simp [h3]⟩
    · rw [show n + 1 + 3 = (n + 3) + 1 by omega, Ev, h1]; simp
    · intro e he
      rcases List.mem_append.1 he with he | he
      · exact h2 e he
      · simp at he; subst he; simp; omega
theorem st_full {w wr : World} {p : Nat} {L : IL} (h : St w p L wr) (k u : Int) (hn : L.length = 4096) (hh : ¬ hasL L k) : Calls Try.prog 10 #[.pointer (some ⟨p, 0, none⟩), .int .u64 k, .int .u64 u] wr fun e w' => e = .returned (.int .i64 10) ∧ St w p L w' := by
  have hs := h
  obtain ⟨F, ⟨v, X, h1, rfl⟩, h3⟩ := h
  refine (put_full _ _ _ _ _ k u _ h1 hh hn).mono ?_
  rintro e w' ⟨rfl, hd⟩
  exact ⟨rfl, hs.below hd⟩
theorem st_put2 {w wr : World} {p : Nat} {L : IL} (h : St w p L wr) (k u : Int) (hn : L.length ≤ 4096) (hh : hasL L k) : Calls Try.prog 10 #[.pointer (some ⟨p, 0, none⟩), .int .u64 k, .int .u64 u] wr fun e w' => e = .returned (.int .i64 0) ∧ St w p (putL L k u) w' := by
  obtain ⟨F, ⟨v, X, h1, rfl⟩, h3⟩ := h
  refine (put_ok h1 k u (by omega) (.inl hh)).mono ?_
  rintro e w' ⟨rfl, hd⟩
  exact ⟨rfl, St.did h1 h3 hd⟩
theorem rg_nil (a b : Int) (w : World) : Calls Try.prog 21 #[.pointer none, .int .u64 a, .int .u64 b] w fun e w' => (∃ ao c, e = .returned (.slice ao 0 c)) ∧ Below w.heap.size w w' := by
  refine (range_nil a b w).mono ?_
  rintro e w' ⟨v', rfl, h, hb⟩
  obtain ⟨ao, c, rfl, _⟩ := It.own_slice h
  exact ⟨⟨ao, c, rfl⟩, hb⟩
theorem pg_nil (w : World) : Calls Try.prog 20 #[.pointer none] w fun e w' => (∃ ao c, e = .returned (.slice ao 0 c)) ∧ Below w.heap.size w w' := by
  refine (pages_nil w).mono ?_
  rintro e w' ⟨v', rfl, Y, h, h2, _, hb⟩
  obtain ⟨ao, c, rfl, _⟩ := Pq.own_slice h
  have : Y = [] := by simpa using h2
  subst this
  exact ⟨⟨ao, c, rfl⟩, hb⟩
theorem nx_nil (k : Int) (w : World) : Calls Try.prog 16 #[.pointer none, .int .u64 k] w fun e w' => e = .returned (.tuple #[.agg #[.int .u64 0, .int .u64 0], .bool false]) ∧ Below w.heap.size w w' := by
  refine (next_nil k w).mono ?_
  rintro e w' ⟨t, ok, rfl, h4, hb⟩
  rcases h4 with ⟨_, h5⟩ | ⟨rfl, rfl, _⟩
  · simp [nextL] at h5
  · exact ⟨rfl, hb⟩
set_option maxRecDepth 100000 in
set_option maxHeartbeats 4000000 in
theorem nil_law (k v : Int) (w : World) : Calls Try.prog 5 #[.int .u64 k, .int .u64 v] w fun e w' => e = .returned (.bool true) ∧ Below w.heap.size w w' := by
  have hneq := run_neq42 0 0 0 0
  go_enter Try.func5, Try.ntmps5
  go_wp2_with fail
  refine (get_nil k w).mono ?_
  rintro e w1 ⟨rfl, hb1⟩
  have H1 := Lib.hid hb1
  clear hb1
  go_wp2_with fail
  refine (nx_nil k w1).mono ?_
  rintro e w2 ⟨rfl, hb2⟩
  have H2 := Lib.hid (H1.out.trans (hb2.mono H1.out.size))
  clear hb2
  have H3 := Lib.hid (H2.out.alloc H2.out.size (.cells #[.int .u64 0, .int .u64 0] 42))
  have z2 : w2.heap.size < (w2.alloc (.cells #[.int .u64 0, .int .u64 0] 42)).heap.size := by simp
  go_wp2_with fail
  refine (awake_any _).mono ?_
  rintro e w3 ⟨rfl, hb3⟩
  have hz3 := (hb3.block w2.heap.size z2).trans (heap_alloc_new w2 _)
  have H4 := Lib.hid (And.intro (H3.out.trans (hb3.mono H3.out.size)) hz3)
  clear hb3 hz3
  go_wp2_with fail
  refine (put_nil k v w3).mono ?_
  rintro e _ ⟨rfl, rfl⟩
  go_wp2_with fail
  refine (del_nil k w3).mono ?_
  rintro e w4 ⟨rfl, hb4⟩
  have hz4 := (hb4.block w2.heap.size (Array.getElem?_eq_some_iff.1 H4.out.2).1).trans H4.out.2
  have c0 : w4.cell? ⟨w2.heap.size, 0, none⟩ = some (.int .u64 0) := by simp [World.cell?, hz4]
  have c1 : w4.cell? ⟨w2.heap.size, 1, none⟩ = some (.int .u64 0) := by simp [World.cell?, hz4]
  have H5 := Lib.hid (H4.out.1.trans (hb4.mono H4.out.1.size))
  clear hb4 hz4
  go_wp2_with fail
  refine (rg_nil 0 k w4).mono ?_
  rintro e w5 ⟨⟨ao5, c5, rfl⟩, hb5⟩
  have H6 := Lib.hid (H5.out.trans (hb5.mono H5.out.size))
  clear hb5 c0 c1
  go_wp2_with fail
  refine (pg_nil w5).mono ?_
  rintro e w6 ⟨⟨ao6, c6, rfl⟩, hb6⟩
  have H7 := Lib.hid (H6.out.trans (hb6.mono H6.out.size))
  clear hb6
  go_wp2_with fail
  refine (len_nil w6).mono ?_
  rintro e _ ⟨rfl, rfl⟩
  go_wp2_with fail
  refine (st_new w6).mono ?_
  rintro e w7 ⟨rfl, h7⟩
  have H8 := Lib.hid h7
  clear h7
  go_wp2_with fail
  go_loopw [73] (fun u73 wr => ∃ i : Nat, i ≤ 4096 ∧ u73 = .int .u64 i ∧ Hid (St w6 w6.heap.size (Ev v i) wr)) (fun u73 _ => 4096 - (intOf u73).toNat)
  case atStart => exact ⟨0, Nat.zero_le _, rfl, H8⟩
  case round =>
    obtain ⟨i, hi, rfl, I⟩ := hrel
    by_cases hlt : i < 4096
    · have hl := ev_len v i
      have HP := Lib.hid (st_put I.out (2 * (i : Int)) v (by omega))
      rw [ev_put] at HP
      have ii : (i : Int) < 4096 := by omega
      clear hl
      go_wp2_with (go_at_call 10; refine HP.out.mono ?_; rintro e w8 ⟨rfl, h8⟩; have H9 := Lib.hid h8; clear h8)
      go_roundw
      case rel => exact ⟨i + 1, by omega, by go_num, H9⟩
      case measure => simp [intOf]; omega
    · obtain rfl : i = 4096 := by omega
      obtain ⟨C, h1, h2, h3⟩ := ev_split v 4093
      have hl : (Ev v 4096).length = 4096 := ev_len v 4096
      obtain ⟨E, hE⟩ : ∃ E, E = Ev v 4096 := ⟨_, rfl⟩
      rw [show 4093 + 3 = 4096 from rfl, ← hE] at h1
      rw [← hE] at hl
      have hk : ¬ hasL E 1 := by
        rintro ⟨e, he, e1⟩
        rw [hE] at he
        have := (ev_key v 4096 e he).1
        omega
      have e2 : putL E 4 7 = [(0, v), (2, v)] ++ (4, 7) :: C := by
        rw [h1]
        exact put_split (by simp) (by simp) h2
      have l2 : (putL E 4 7).length = 4096 := by rw [e2]; simp [h3]
      have e3 : delL (putL E 4 7) 0 = (2, v) :: (4, 7) :: C := by
        rw [e2]
        have := del_split (A := []) (D := [(0, v)]) (C := (2, v) :: (4, 7) :: C) (k := 0) (by simp) (by simp) (by
          intro e he
          simp only [List.mem_cons] at he
          rcases he with rfl | rfl | he
          · simp
          · simp
          · have := h2 e he; omega)
        simpa using this
      have l3 : (delL (putL E 4 7) 0).length = 4095 := by rw [e3]; simp [h3]
      have k4 : hasL E 4 := ⟨(4, v), by rw [h1]; simp, rfl⟩
      have k0 : hasL (putL E 4 7) 0 := ⟨(0, v), by rw [e2]; simp, rfl⟩
      rw [← hE] at I
      have HK := Lib.hid (And.intro hl (And.intro hk (And.intro l2 (And.intro l3 (And.intro k4 k0)))))
      clear h1 h2 h3 hl hk e2 l2 e3 l3 k4 k0 hE
      generalize wr = wa at *
      go_wp2_with fail
      refine (st_full I.out 1 v HK.out.1 HK.out.2.1).mono ?_
      rintro e w8 ⟨rfl, h8⟩
      have J1 := Lib.hid h8
      clear h8
      go_wp2_with fail
      refine (st_put2 J1.out 4 7 (by have := HK.out.1; omega) HK.out.2.2.2.2.1).mono ?_
      rintro e w9 ⟨rfl, h9⟩
      have J2 := Lib.hid h9
      clear h9
      go_wp2_with fail
      refine (st_len J2.out).mono ?_
      rintro e _ ⟨rfl, rfl⟩
      rw [HK.out.2.2.1]
      go_wp2_with fail
      refine (st_del J2.out 0 (by have := HK.out.2.2.1; omega) HK.out.2.2.2.2.2).mono ?_
      rintro e w10 ⟨rfl, h10⟩
      have J3 := Lib.hid h10
      clear h10
      go_wp2_with fail
      refine (st_put J3.out 1 v (by have := HK.out.2.2.2.1; omega)).mono ?_
      rintro e w11 ⟨rfl, h11⟩
      have J4 := Lib.hid h11
      clear h11
      go_wp2_with fail
      go_ret
      exact ⟨rfl, H7.out.trans (J4.out.ahead.mono H7.out.size)⟩
end Go.Proofs.Ythjcohaldjfniaa.Ix
