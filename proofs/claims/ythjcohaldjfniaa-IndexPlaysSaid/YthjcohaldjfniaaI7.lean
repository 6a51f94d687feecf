/- index: slices.Concat of pages, walked. -/
import Derived.Test.YthjcohaldjfniaaI6
namespace Go.Proofs.Ythjcohaldjfniaa.Ix
open Go Go.RowKit
open Pq (Pg pv fq)
open It (fl)
theorem cont_next {X : List Pg} {k : Nat} {t : Pg} (h : X[k]? = some t) : cont (X.take (k + 1)) = cont (X.take k) ++ t.P := by
  obtain ⟨hk, e⟩ := List.getElem?_eq_some_iff.1 h
  rw [List.take_succ_eq_append_getElem hk, cont_app, e]
  simp [cont]
theorem cont_take_le (X : List Pg) (k : Nat) : (cont (X.take k)).length ≤ (cont X).length := by
  conv => rhs; rw [← List.take_append_drop k X, cont_app, List.length_append]
  omega
def CatI (w : World) (P : IL) (v : Value) (wr : World) : Prop := wr.ownsRow w.heap.size 42 2 v P.length (fl P) ∧ Below w.heap.size w wr ∧ ∃ g c, v = .slice (some ⟨g, 0, none⟩) P.length c
set_option maxRecDepth 100000 in
set_option maxHeartbeats 1000000 in
theorem concat_any (X : List Pg) (q c : Nat) (w : World) (hq : w.heap[q]? = some (.cells (fq X).toArray 52 (0, 0))) (hP : ∀ t ∈ X, PgAt w t ∧ 0 < t.P.length) (h0 : 0 < (cont X).length) (hn : (cont X).length ≤ 100000) (hx : X.length ≤ 1000) :
    Calls Try.prog 29 #[.slice (some ⟨q, 0, none⟩) X.length c] w (NewPg w (cont X)) := by
  obtain ⟨i0, hi0, hz0, hz1, hz2⟩ := info_parts It.info42
  have HQ := Lib.hid (show q < w.heap.size ∧ ∀ (j : Nat) (t : Pg), X[j]? = some t → w.cell? ⟨q, j, none⟩ = some (pv t) from ⟨(Array.getElem?_eq_some_iff.1 hq).1, fun j t hj => by
    rw [show w.cell? ⟨q, j, none⟩ = (fq X)[j]? from by simp [World.cell?, hq]]
    exact Pq.fq_at hj⟩)
  have HP := Lib.hid hP
  clear hq hP
  go_enter Try.func29, Try.ntmps29
  go_wp2_with fail
  go_loop [3, 11] (fun u v => ∃ k : Nat, k ≤ X.length ∧ v = .int .i64 k ∧ u = .int .i64 (cont (X.take k)).length) (fun _ v => X.length - (intOf v).toNat)
  case atStart => exact ⟨0, Nat.zero_le _, rfl, rfl⟩
  case round =>
    obtain ⟨k, hk, rfl, rfl⟩ := hrel
    by_cases hlt : k < X.length
    · have ht := getD_at X k default hlt
      obtain ⟨t, et⟩ : ∃ t, t = X.getD k default := ⟨_, rfl⟩
      rw [← et] at ht
      have c1 := HQ.out.2 _ _ ht
      have hN := cont_next ht
      have hle := cont_take_le X (k + 1)
      have e1 : (cont (X.take (k + 1))).length = (cont (X.take k)).length + t.P.length := by rw [hN, List.length_append]
      have HE := Lib.hid e1
      have n1 : ((cont (X.take k)).length : Int) + (t.P.length : Int) ≤ 100000 := by omega
      have n2 : ¬ ((cont (X.take k)).length : Int) + (t.P.length : Int) < 0 := by omega
      unfold pv at c1
      clear ht et hN hle e1
      go_wp2_with fail
      go_round
      case rel => exact ⟨k + 1, by omega, by go_num, by rw [HE.out]; go_num⟩
      case measure => simp [intOf]; omega
    · obtain rfl : k = X.length := by omega
      rw [List.take_length]
      go_wp2_with fail
      refine (grow_any (cont X).length h0 (by omega) w).mono ?_
      rintro e w1 ⟨cg, rfl, ho, hb⟩
      have HI : Hid (CatI w [] (.slice (some ⟨w.heap.size, 0, none⟩) 0 cg) w1) := Lib.hid ⟨ho, hb, _, _, rfl⟩
      clear ho hb
      go_wp2_with fail
      go_loopw [6, 27] (fun u v wr => ∃ k : Nat, k ≤ X.length ∧ v = .int .i64 k ∧ (∃ g c, u = .slice (some ⟨g, 0, none⟩) (cont (X.take k)).length c) ∧ Hid (CatI w (cont (X.take k)) u wr)) (fun _ v _ => X.length - (intOf v).toNat)
      case atStart => exact ⟨0, Nat.zero_le _, rfl, ⟨_, _, rfl⟩, HI⟩
      case round =>
        obtain ⟨k, hk, rfl, ⟨g, c2, rfl⟩, H2⟩ := hrel
        by_cases hlt : k < X.length
        · have ht := getD_at X k default hlt
          obtain ⟨t, et⟩ : ∃ t, t = X.getD k default := ⟨_, rfl⟩
          rw [← et] at ht
          have c1 := (H2.out.2.1.cell (p := ⟨q, k, none⟩) HQ.out.1).trans (HQ.out.2 _ _ ht)
          have hN := cont_next ht
          have hle := cont_take_le X (k + 1)
          have e1 : (cont (X.take (k + 1))).length = (cont (X.take k)).length + t.P.length := by rw [hN, List.length_append]
          have hp := HP.out t (List.mem_of_getElem? ht)
          have HPt := Lib.hid (show ∀ j u, (fl t.P)[j]? = some u → wr.cell? ((⟨t.g, 0, none⟩ : Addr).add j) = some u from fun j u hu => by
            have h3 := (hp.1.on (H2.out.2.1.block _ hp.1.lt)).own (Nat.zero_le _)
            exact h3.cells (g := t.g) rfl j u hu)
          have HE := Lib.hid (And.intro e1 hN)
          have n1 : (cont (X.take k)).length + t.P.length ≤ 100000 := by omega
          have n0 := hp.2
          unfold pv at c1
          have hB := H2.out.2.1.size
          clear ht et hN hle e1 hp
          go_wp2_with (at_builtin; refine wpList_append_lies _ rfl (.tmp 31) (.tmp 32) 52 rfl w.heap.size 42 i0 _ 2 16 Try.underlying52 hi0 hz0 hz1 hz2 rfl (by decide) _ (cont (X.take k)).length (fl (cont (X.take k))) rfl H2.out.1 ⟨t.g, 0, none⟩ t.P.length t.cap (fl t.P) rfl (It.fl_len _) HPt.out (It.fl_one _) n0 (by unfold maxLen; omega) (by omega) hB _ rfl ?_; intro g3 c3 w3 hown3 hgrow3 hat3 _; have H3 := Lib.hid (And.intro hown3 (And.intro hgrow3 hat3)); clear hown3 hgrow3 hat3)
          go_roundw
          case rel =>
            obtain ⟨a1, a2, a3⟩ := H3.out
            refine ⟨k + 1, by omega, by go_num, ⟨g3, c3, by rw [HE.out.1]⟩, Lib.hid ⟨?_, ?_, g3, c3, by rw [HE.out.1]⟩⟩
            · rw [HE.out.1, HE.out.2, It.fl_app]; exact a1
            · exact grown_below H2.out.2.1 a2 (fun k e => (World.ownsRow.lt H2.out.1 k e).1)
          case measure => simp [intOf]; omega
        · obtain rfl : k = X.length := by omega
          rw [List.take_length] at H2 ⊢
          go_wp2_with fail
          go_ret
          obtain ⟨t, e, ht, hp, hg⟩ := PgAt.of_own H2.out.1 rfl h0
          exact ⟨t, by rw [← e]; rfl, ht, hp, hg, H2.out.2.1⟩
end Go.Proofs.Ythjcohaldjfniaa.Ix
