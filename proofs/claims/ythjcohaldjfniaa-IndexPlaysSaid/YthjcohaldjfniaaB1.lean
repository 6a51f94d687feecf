/- index: an index in memory; the closures of find, slices.BinarySearchFunc, find, walked. -/
import Derived.Test.YthjcohaldjfniaaI3
import Derived.Test.YthjcohaldjfniaaQ5
import Derived.Outline
namespace Go.Proofs.Ythjcohaldjfniaa.Ix
open Go Go.RowKit
open Pq (Pg pv fq)
open It (fl)
theorem nan_any (a : Int) (w : World) : Calls Try.prog 40 #[.int .u64 a] w fun e w' => e = .returned (.bool false) ∧ w = w' := by
  go_enter Try.func40, Try.ntmps40
  go_wp2
  go_ret
  exact ⟨rfl, rfl⟩
def cmpI (a b : Int) : Int := if a < b then -1 else if b < a then 1 else 0
theorem cmp_any (a b : Int) (w : World) : Calls Try.prog 35 #[.int .u64 a, .int .u64 b] w fun e w' => e = .returned (.int .i64 (cmpI a b)) ∧ w = w' := by
  rcases Int.lt_trichotomy a b with h | h | h
  · have e : cmpI a b = -1 := by simp [cmpI, h]
    rw [e]
    go_enter Try.func35, Try.ntmps35
    go_wp2_with (go_at_call 40; refine (nan_any _ _).mono ?_; rintro e w' ⟨rfl, rfl⟩)
    go_ret
    exact ⟨rfl, rfl⟩
  · subst h
    have e : cmpI a a = 0 := by simp [cmpI]
    rw [e]
    go_enter Try.func35, Try.ntmps35
    go_wp2_with (go_at_call 40; refine (nan_any _ _).mono ?_; rintro e w' ⟨rfl, rfl⟩)
    go_ret
    exact ⟨rfl, rfl⟩
  · have h' : ¬ a < b := by omega
    have e : cmpI a b = 1 := by simp [cmpI, h, h']
    rw [e]
    go_enter Try.func35, Try.ntmps35
    go_wp2_with (go_at_call 40; refine (nan_any _ _).mono ?_; rintro e w' ⟨rfl, rfl⟩)
    go_ret
    exact ⟨rfl, rfl⟩
theorem below_any_item (a b k : Int) (w : World) : Calls Try.prog 34 #[.agg #[.int .u64 a, .int .u64 b], .int .u64 k] w fun e w' => e = .returned (.int .i64 (cmpI a k)) ∧ Below w.heap.size w w' := by
  go_enter Try.func34, Try.ntmps34
  go_wp2_with (go_at_call 35; refine (cmp_any _ _ _).mono ?_; rintro e w' ⟨rfl, rfl⟩)
  go_ret
  exact ⟨rfl, (Below.refl _ _).alloc (Nat.le_refl _) _⟩
/-- A page in memory. -/
def PgAt (w : World) (t : Pg) : Prop := ∃ cur : List Value, w.heap[t.g]? = some (.cells cur.toArray 42 (0, 0)) ∧ cur.length = t.cap * 2 ∧ t.P.length ≤ t.cap ∧ t.cap ≤ maxLen ∧ cur.take (t.P.length * 2) = fl t.P
theorem PgAt.lt {w : World} {t : Pg} (h : PgAt w t) : t.g < w.heap.size := by
  obtain ⟨cur, h, _⟩ := h
  exact (Array.getElem?_eq_some_iff.1 h).1
theorem PgAt.on {w w' : World} {t : Pg} (h : PgAt w t) (hb : w'.heap[t.g]? = w.heap[t.g]?) : PgAt w' t := by
  obtain ⟨cur, h, h'⟩ := h
  exact ⟨cur, hb.trans h, h'⟩
theorem PgAt.own {w : World} {t : Pg} (h : PgAt w t) {B : Nat} (hB : B ≤ t.g) : w.ownsRow B 42 2 (pv t) t.P.length (fl t.P) := by
  obtain ⟨cur, h1, h2, h3, h4, h5⟩ := h
  exact It.own_mk hB h1 h2 h3 h4 h5
theorem PgAt.of_own {w : World} {B n : Nat} {v : Value} {P : List (Int × Int)} (h : w.ownsRow B 42 2 v n (fl P)) (hn : n = P.length) (h0 : 0 < n) : ∃ t : Pg, v = pv t ∧ t.P = P ∧ PgAt w t ∧ B ≤ t.g := by
  subst hn
  obtain ⟨g, cap, cur, rfl, hB, _, h1, h2, h3, h4, h5⟩ := It.own_block h h0
  exact ⟨⟨g, cap, P⟩, rfl, rfl, ⟨cur, h1, h2, h3, h4, h5⟩, hB⟩
theorem PgAt.cells {w : World} {t : Pg} (h : PgAt w t) {j : Nat} {e : Int × Int} (he : t.P[j]? = some e) : w.cell? ⟨t.g, j * 2, none⟩ = some (.int .u64 e.1) ∧ w.cell? ⟨t.g, j * 2 + 1, none⟩ = some (.int .u64 e.2) := by
  obtain ⟨cur, h1, h2, h3, h4, h5⟩ := h
  have hj := (List.getElem?_eq_some_iff.1 he).1
  obtain ⟨a1, a2⟩ := It.fl_at he
  rw [← h5, List.getElem?_take] at a1 a2
  rw [if_pos (by omega)] at a1 a2
  simp only [World.cell?, h1]
  simpa using ⟨a1, a2⟩
/-- slices.BinarySearchFunc by the key. -/
def BinR (P : List (Int × Int)) (k : Int) (i : Nat) (ok : Bool) : Prop :=
  i ≤ P.length ∧ (i = 0 ∨ (P.getD (i - 1) (0, 0)).1 < k) ∧ (i = P.length ∨ k ≤ (P.getD i (0, 0)).1) ∧ ok = (decide (i < P.length) && decide ((P.getD i (0, 0)).1 = k))
theorem getD_at {α : Type} (P : List α) (j : Nat) (d : α) (h : j < P.length) : P[j]? = some (P.getD j d) := by simp [List.getElem?_eq_getElem h]
def BinI (P : List (Int × Int)) (k : Int) (i j : Nat) : Prop := (i = 0 ∨ (P.getD (i - 1) (0, 0)).1 < k) ∧ (j = P.length ∨ k ≤ (P.getD j (0, 0)).1)
set_option maxHeartbeats 1000000 in
theorem bin_any (t : Pg) (k : Int) (w : World) (h : PgAt w t) (hn : t.P.length ≤ 1000000) :
    Calls Try.prog 33 #[pv t, .int .u64 k, .func (.func 34) #[] #[]] w fun e w' => ∃ (i : Nat) (ok : Bool), e = .returned (.tuple #[.int .i64 i, .bool ok]) ∧ BinR t.P k i ok ∧ Below w.heap.size w w' := by
  have H := Lib.hid h
  have hcn : t.P.length ≤ t.cap := by obtain ⟨_, _, _, h3, _⟩ := h; exact h3
  clear h
  unfold pv
  go_enter Try.func33, Try.ntmps33
  go_wp2
  go_loopg [9, 10] t.P.length (fun kx u v wr => ∃ i j : Nat, u = .int .i64 i ∧ v = .int .i64 j ∧ i ≤ j ∧ j ≤ t.P.length ∧ j - i ≤ kx ∧ Hid (BinI t.P k i j) ∧ Hid (Below w.heap.size w wr))
  case atStart => exact ⟨0, t.P.length, rfl, rfl, by omega, by omega, by omega, Lib.hid ⟨.inl rfl, .inl rfl⟩, Lib.hid (Below.refl _ _)⟩
  case round =>
    obtain ⟨i, j, rfl, rfl, hij, hjn, hg, I, B⟩ := hrel
    by_cases hlt : i < j
    · obtain ⟨m, hm⟩ : ∃ m : Nat, m = (i + j) / 2 := ⟨_, rfl⟩
      have im : (m : Int) = ((i : Int) + (j : Int)) / 2 := by omega
      have hmlt : m < t.P.length := by omega
      obtain ⟨q, hq⟩ : ∃ q, q = t.P.getD m (0, 0) := ⟨_, rfl⟩
      have hP : PgAt wr t := H.out.on (B.out.block _ H.out.lt)
      have he := getD_at t.P m (0, 0) hmlt
      rw [← hq] at he
      obtain ⟨c1, c2⟩ := hP.cells he
      have i0 : (0 : Int) ≤ ((i : Int) + (j : Int)) / 2 := by omega
      have i1 : ((i : Int) + (j : Int)) / 2 < (t.P.length : Int) := by omega
      have i2 : (((i : Int) + (j : Int)) / 2).toNat = m := by omega
      by_cases hp : q.1 < k
      · have hc : cmpI q.1 k = -1 := by simp [cmpI, hp]
        have hI : BinI t.P k (m + 1) j := ⟨.inr (by rw [Nat.add_sub_cancel, ← hq]; exact hp), I.out.2⟩
        have HI := Lib.hid hI
        have HM := Lib.hid im
        clear hI hp hm hq he hP im
        go_wp2_with (go_at_call 34; refine (below_any_item q.1 q.2 k _).mono ?_; rintro e w' ⟨rfl, hb⟩; have HB2 := Lib.hid (B.out.trans (hb.mono B.out.size)); clear hb)
        go_roundg (j - (m + 1))
        case measure => omega
        case rel => exact ⟨m + 1, j, by rw [← HM.out]; rfl, rfl, by omega, hjn, Nat.le_refl _, HI, HB2⟩
      · have hc : ¬ cmpI q.1 k < 0 := by unfold cmpI; split <;> (try split) <;> omega
        have hI : BinI t.P k i m := ⟨I.out.1, .inr (by rw [← hq]; omega)⟩
        have HI := Lib.hid hI
        have HM := Lib.hid im
        clear hI hp hm hq he hP im
        go_wp2_with (go_at_call 34; refine (below_any_item q.1 q.2 k _).mono ?_; rintro e w' ⟨rfl, hb⟩; have HB2 := Lib.hid (B.out.trans (hb.mono B.out.size)); clear hb)
        go_roundg (m - i)
        case measure => omega
        case rel => exact ⟨i, m, rfl, by rw [← HM.out], by omega, by omega, Nat.le_refl _, HI, HB2⟩
    · obtain rfl : j = i := by omega
      by_cases hl : j < t.P.length
      · obtain ⟨q, hq⟩ : ∃ q, q = t.P.getD j (0, 0) := ⟨_, rfl⟩
        have hP : PgAt wr t := H.out.on (B.out.block _ H.out.lt)
        have he := getD_at t.P j (0, 0) hl
        rw [← hq] at he
        obtain ⟨c1, c2⟩ := hP.cells he
        have il : (j : Int) < (t.P.length : Int) := by omega
        by_cases hp : q.1 = k
        · have hc : cmpI q.1 k = 0 := by subst hp; simp [cmpI]
          have hR : BinR t.P k j true := ⟨hjn, I.out.1, I.out.2, by rw [← hq]; simp [hl, hp]⟩
          have HR := Lib.hid hR
          clear hR hp hq he hP
          go_wp2_with (go_at_call 34; refine (below_any_item q.1 q.2 k _).mono ?_; rintro e w' ⟨rfl, hb⟩; have HB2 := Lib.hid (B.out.trans (hb.mono B.out.size)); clear hb)
          go_ret2
          exact ⟨j, true, rfl, HR.out, HB2.out⟩
        · have hc : (cmpI q.1 k == 0) = false := by unfold cmpI; split <;> (try split) <;> simp <;> omega
          have hR : BinR t.P k j false := ⟨hjn, I.out.1, I.out.2, by rw [← hq]; simp [hl, hp]⟩
          have HR := Lib.hid hR
          clear hR hp hq he hP
          go_wp2_with (go_at_call 34; refine (below_any_item q.1 q.2 k _).mono ?_; rintro e w' ⟨rfl, hb⟩; have HB2 := Lib.hid (B.out.trans (hb.mono B.out.size)); clear hb)
          go_ret2
          exact ⟨j, false, rfl, HR.out, HB2.out⟩
      · obtain rfl : j = t.P.length := by omega
        have hR : BinR t.P k t.P.length false := ⟨hjn, I.out.1, I.out.2, by simp⟩
        have HR := Lib.hid hR
        clear hR
        go_wp2
        go_ret2
        exact ⟨t.P.length, false, rfl, HR.out, B.out⟩
end Go.Proofs.Ythjcohaldjfniaa.Ix
