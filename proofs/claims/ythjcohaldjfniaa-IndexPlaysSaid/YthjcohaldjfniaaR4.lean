/- index: the law's same and paged, walked. -/
import Derived.Test.YthjcohaldjfniaaR3
namespace Go.Proofs.Ythjcohaldjfniaa.Ix
open Go Go.RowKit
open Pq (Pg pv fq)
open It (fl)
set_option maxRecDepth 100000 in
set_option maxHeartbeats 1000000 in
theorem same_true {w : World} {ao bo : Option Addr} {ca cb : Nat} {L : IL} (hA : Rl w ao L) (hB : Rl w bo L) (hn : L.length ≤ 5000) :
    Calls Try.prog 22 #[.slice ao L.length ca, .slice bo L.length cb] w fun e w' => e = .returned (.bool true) ∧ Below w.heap.size w w' := by
  have H := Lib.hid (And.intro hA hB)
  obtain ⟨N, hN⟩ : ∃ N, L.length = N := ⟨_, rfl⟩
  rw [hN] at hn ⊢
  have HN := Lib.hid hN
  clear hA hB hN
  go_enter Try.func22, Try.ntmps22
  go_wp2_with fail
  go_loopw [13] (fun u13 wr => ∃ i : Nat, i ≤ N ∧ u13 = .int .i64 i ∧ Hid (Below w.heap.size w wr)) (fun u13 _ => N - (intOf u13).toNat)
  case atStart => exact ⟨0, Nat.zero_le _, rfl, Lib.hid (Below.refl _ _)⟩
  case round =>
    obtain ⟨i, hi, rfl, J⟩ := hrel
    by_cases hlt : i < N
    · have he := getD_at L i (0, 0) (by have := HN.out; omega)
      obtain ⟨q, eq⟩ : ∃ q, q = L.getD i (0, 0) := ⟨_, rfl⟩
      rw [← eq] at he
      obtain ⟨ga, rfl, _, c1, c2⟩ := (H.out.1.on J.out) i q he
      obtain ⟨gb, rfl, _, d1, d2⟩ := (H.out.2.on J.out) i q he
      have hneq := run_neq45 q.1 q.2 q.1 q.2
      have hqq : (!(q.1 == q.1 && q.2 == q.2)) = false := by simp
      rw [hqq] at hneq
      have ii : (i : Int) < (N : Int) := by omega
      clear he eq hqq
      go_wp2_with fail
      go_quiet (fail)
      go_wp2_with fail
      go_roundw
      case rel => exact ⟨i + 1, by omega, by go_num, Lib.hid (J.out.trans ((Below.drewN_refl wr nq).mono J.out.size))⟩
      case measure => simp [intOf]; omega
    · obtain rfl : i = N := by omega
      go_wp2_with fail
      go_ret
      exact ⟨rfl, J.out⟩
def PgdI (w : World) (D : IL) (v : Value) (wr : World) : Prop := wr.ownsRow w.heap.size 42 2 v D.length (fl D) ∧ Below w.heap.size w wr
theorem cont_map {X Y : List Pg} (h : Y.map Pg.P = X.map Pg.P) : cont Y = cont X := by
  simp only [cont, List.flatMap_def, h]
theorem fit_map {X Y : List Pg} (hf : Fit X) (h : Y.map Pg.P = X.map Pg.P) : Y.length = X.length ∧ ∀ t ∈ Y, (1 ≤ t.P.length ∧ t.P.length ≤ 8) ∧ (1 < X.length → 2 ≤ t.P.length) := by
  have hl : Y.length = X.length := by simpa using congrArg List.length h
  refine ⟨hl, fun t ht => ?_⟩
  have hm : t.P ∈ X.map Pg.P := by rw [← h]; exact List.mem_map.2 ⟨t, ht, rfl⟩
  obtain ⟨s, hs, e⟩ := List.mem_map.1 hm
  rw [← e]
  exact ⟨hf.one s hs, fun h1 => hf.two h1 s hs⟩
set_option maxRecDepth 100000 in
set_option maxHeartbeats 2000000 in
theorem paged_true {w : World} {B : Nat} {ao bo : Option Addr} {ca cb : Nat} {X Y : List Pg} (hf : Fit X) (hY : Y.map Pg.P = X.map Pg.P) (hrow : w.ownsRow B 52 1 (.slice ao X.length ca) X.length (fq Y)) (hP : ∀ t ∈ Y, PgAt w t) (hB : Rl w bo (cont X)) (hn : (cont X).length ≤ 4096) :
    Calls Try.prog 19 #[.slice ao X.length ca, .slice bo (cont X).length cb] w fun e w' => e = .returned (.bool true) ∧ Below w.heap.size w w' := by
  obtain ⟨i0, hi0, hz0, hz1, hz2⟩ := info_parts It.info42
  obtain ⟨hyl, hy⟩ := fit_map hf hY
  have hcl := cont_len hf
  have hcy := cont_map hY
  have hcells : ∀ j t, Y[j]? = some t → ∃ g, ao = some ⟨g, 0, none⟩ ∧ g < w.heap.size ∧ w.cell? ⟨g, j, none⟩ = some (pv t) := by
    intro j t ht
    obtain ⟨ao', c', ev, _, _, hc⟩ := Pq.own_slice hrow
    have hj := (List.getElem?_eq_some_iff.1 ht).1
    obtain ⟨g, eg, hc2⟩ := hc (by omega)
    simp only [Value.slice.injEq] at ev
    have := hc2 j _ (Pq.fq_at ht)
    exact ⟨g, ev.1.trans eg, World.block_lt_of_cell? w _ this, this⟩
  have H := Lib.hid (And.intro hcells (And.intro hP (And.intro hy (And.intro hB hcy))))
  obtain ⟨N, hN⟩ : ∃ N, X.length = N := ⟨_, rfl⟩
  obtain ⟨M, hM⟩ : ∃ M, (cont X).length = M := ⟨_, rfl⟩
  rw [hN] at hyl hcl ⊢
  rw [hM] at hcl hn ⊢
  have HN := Lib.hid (And.intro hN (And.intro hM hyl))
  clear hrow hP hB hcells hf hY hN hM hy hcy hyl
  go_enter Try.func19, Try.ntmps19
  go_wp2_with fail
  go_loopw [5, 10] (fun u5 u10 wr => ∃ k : Nat, k ≤ N ∧ u10 = .int .i64 k ∧ Hid (PgdI w (cont (Y.take k)) u5 wr)) (fun _ u10 _ => N - (intOf u10).toNat)
  case atStart => exact ⟨0, Nat.zero_le _, rfl, Lib.hid ⟨World.ownsRow_nil _ _ _ _, Below.refl _ _⟩⟩
  case round =>
    obtain ⟨k, hk, rfl, I⟩ := hrel
    by_cases hlt : k < N
    · have hs := getD_at Y k default (by have := HN.out.2.2; omega)
      obtain ⟨t, et⟩ : ∃ t, t = Y.getD k default := ⟨_, rfl⟩
      rw [← et] at hs
      obtain ⟨g, rfl, hg, c1w⟩ := H.out.1 k t hs
      have c1 : wr.cell? ⟨g, k, none⟩ = some (pv t) := (I.out.2.cell (p := ⟨g, k, none⟩) hg).trans c1w
      have htm := List.mem_of_getElem? hs
      have htP := (H.out.2.1 t htm).on (I.out.2.block _ (H.out.2.1 t htm).lt)
      obtain ⟨⟨l1, l8⟩, l2⟩ := H.out.2.2.1 t htm
      have hnx := cont_next hs
      have hle := cont_take_le Y (k + 1)
      rw [hnx, List.length_append, H.out.2.2.2.2] at hle
      have hle2 : (cont (Y.take k)).length + t.P.length ≤ 4096 := by have := HN.out.2.1; omega
      have HS := Lib.hid (src_page htP)
      have HX := Lib.hid hnx
      have hBs := I.out.2.size
      have ik : (k : Int) < (N : Int) := by omega
      have q1 : ¬ (t.P.length : Int) < 1 := by omega
      have q2 : ¬ (8 : Int) < (t.P.length : Int) := by omega
      have HL2 := Lib.hid l2
      unfold pv at c1
      clear et hs c1w htm htP hnx hle l2
      by_cases h1 : 1 < N
      · have q3 : (1 : Int) < (N : Int) := by omega
        have q4 : ¬ (t.P.length : Int) < 2 := by have := HL2.out (by have := HN.out.1; omega); omega
        go_wp2_with (at_builtin; refine wpList_append_own_at _ rfl (.tmp 32) (.tmp 33) 52 rfl w.heap.size 42 i0 _ 2 16 Try.underlying52 hi0 hz0 hz1 hz2 rfl (by decide) _ _ _ rfl I.out.1 ⟨t.g, 0, none⟩ t.P.length t.cap (fl t.P) rfl (It.fl_len _) HS.out (It.fl_one _) (by unfold maxLen; omega) (by omega) hBs ?_; intro v' w3 hown3 hgrow3 _ _; have H3 := Lib.hid (And.intro hown3 (grown_below I.out.2 hgrow3 (fun k e => (World.ownsRow.lt I.out.1 k e).1))); clear hown3 hgrow3)
        go_roundw
        case rel => exact ⟨k + 1, by omega, by go_num, Lib.hid ⟨by rw [HX.out, It.fl_app, List.length_append]; exact H3.out.1, H3.out.2⟩⟩
        case measure => simp [intOf]; omega
      · have q3 : ¬ (1 : Int) < (N : Int) := by omega
        go_wp2_with (at_builtin; refine wpList_append_own_at _ rfl (.tmp 32) (.tmp 33) 52 rfl w.heap.size 42 i0 _ 2 16 Try.underlying52 hi0 hz0 hz1 hz2 rfl (by decide) _ _ _ rfl I.out.1 ⟨t.g, 0, none⟩ t.P.length t.cap (fl t.P) rfl (It.fl_len _) HS.out (It.fl_one _) (by unfold maxLen; omega) (by omega) hBs ?_; intro v' w3 hown3 hgrow3 _ _; have H3 := Lib.hid (And.intro hown3 (grown_below I.out.2 hgrow3 (fun k e => (World.ownsRow.lt I.out.1 k e).1))); clear hown3 hgrow3)
        go_roundw
        case rel => exact ⟨k + 1, by omega, by go_num, Lib.hid ⟨by rw [HX.out, It.fl_app, List.length_append]; exact H3.out.1, H3.out.2⟩⟩
        case measure => simp [intOf]; omega
    · obtain rfl : k = N := by omega
      have hT : Y.take k = Y := List.take_of_length_le (by have := HN.out.2.2; omega)
      have hI := I.out
      rw [hT, H.out.2.2.2.2] at hI
      obtain ⟨aoF, cF, evF, _⟩ := It.own_slice hI.1
      subst evF
      have HQ := Lib.hid (same_true (ca := cF) (cb := cb) (rl_own hI.1 rfl) (H.out.2.2.2.1.on hI.2) (by have := HN.out.2.1; omega))
      rw [HN.out.2.1] at HQ ⊢
      have HB := Lib.hid hI.2
      clear I hT hI
      go_wp2_with fail
      refine HQ.out.mono ?_
      rintro e w5 ⟨rfl, hb5⟩
      have H5 := Lib.hid (HB.out.trans (hb5.mono HB.out.size))
      clear hb5
      go_wp2_with fail
      go_ret
      exact ⟨rfl, H5.out⟩
end Go.Proofs.Ythjcohaldjfniaa.Ix
