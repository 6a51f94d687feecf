/- index: Range, walked. -/
import Derived.Test.YthjcohaldjfniaaG1
namespace Go.Proofs.Ythjcohaldjfniaa.Ix
open Go Go.RowKit
open Pq (Pg pv fq)
open It (fl)
def rangeL (L : IL) (a b : Int) : IL := L.filter (fun e => decide (a ≤ e.1 ∧ e.1 ≤ b))
def RangeE (w : World) (M : IL) (e : Ending) (w' : World) : Prop := ∃ v', e = .returned v' ∧ w'.ownsRow w.heap.size 42 2 v' M.length (fl M) ∧ Below w.heap.size w w'
theorem range_nil (a b : Int) (w : World) : Calls Try.prog 21 #[.pointer none, .int .u64 a, .int .u64 b] w (RangeE w []) := by
  go_enter Try.func21, Try.ntmps21
  go_wp2_with (go_at_call 18; refine (len_nil _).mono ?_; rintro e _ ⟨rfl, rfl⟩)
  go_ret
  exact ⟨_, rfl, World.ownsRow_nil _ _ _ _, Below.refl _ _⟩
def Dk (X : List Pg) (pg i k : Nat) : IL := (cont (X.take (pg + k))).drop ((cont (X.take pg)).length + i)
theorem dk_zero (X : List Pg) (pg i : Nat) : Dk X pg i 0 = [] := by
  unfold Dk
  exact List.drop_eq_nil_of_le (by simp)
theorem dk_next {X : List Pg} {pg i k a : Nat} {s t : Pg} (ht : X[pg]? = some t) (hi : i ≤ t.P.length) (hs : X[pg + k]? = some s) (h0 : k = 0 → a = i) (h1 : k ≠ 0 → a = 0) : Dk X pg i (k + 1) = Dk X pg i k ++ s.P.drop a := by
  unfold Dk
  rw [← Nat.add_assoc, cont_next hs]
  by_cases hk : k = 0
  · subst hk
    rw [h0 rfl, List.drop_append]
    congr 2
    simp
  · rw [h1 hk, List.drop_zero, List.drop_append_of_le_length]
    have h2 := cont_next ht
    have h3 : (cont (X.take (pg + 1))).length ≤ (cont (X.take (pg + k))).length := by
      have := cont_take_le (X.take (pg + k)) (pg + 1)
      rwa [List.take_take, Nat.min_eq_left (by omega)] at this
    rw [h2, List.length_append] at h3
    omega
theorem dk_all {X : List Pg} {pg i : Nat} {t : Pg} (ht : X[pg]? = some t) (hi : i ≤ t.P.length) : Dk X pg i (X.length - pg) = t.P.drop i ++ cont (X.drop (pg + 1)) := by
  have := (List.getElem?_eq_some_iff.1 ht).1
  unfold Dk
  rw [show pg + (X.length - pg) = X.length by omega, List.take_length, cont_split ht, List.drop_append, List.drop_eq_nil_of_le (by omega), List.nil_append, List.drop_append_of_le_length (by omega)]
  congr 2
  omega
theorem dk_pre (X : List Pg) (pg i k : Nat) : Dk X pg i k <+: Dk X pg i (X.length - pg) ∨ X.length ≤ pg := by
  by_cases h : X.length ≤ pg
  · exact .inr h
  · left
    unfold Dk
    rw [show pg + (X.length - pg) = X.length by omega, List.take_length]
    have e : cont X = cont (X.take (pg + k)) ++ cont (X.drop (pg + k)) := by rw [← cont_app, List.take_append_drop]
    rw [e, List.drop_append]
    exact List.prefix_append _ _
/-- All that lies between, where the next one lies beyond. -/
theorem range_cut {A D R : IL} {a b : Int} (hA : ∀ e ∈ A, e.1 < a) (hC : ∀ e ∈ D ++ R, a ≤ e.1) (hD : ∀ e ∈ D, e.1 ≤ b) (hR : ∀ e ∈ R, b < e.1) : rangeL (A ++ (D ++ R)) a b = D := by
  unfold rangeL
  rw [List.filter_append, List.filter_append, filter_no (L := A) (fun e he => by have := hA e he; simp; omega), filter_all (L := D) (fun e he => by have := hC e (List.mem_append_left _ he); have := hD e he; simp; omega), filter_no (L := R) (fun e he => by have := hR e he; simp; omega)]
  simp
def RgI (w : World) (D : IL) (b : Int) (v : Value) (wr : World) : Prop := wr.ownsRow w.heap.size 42 2 v D.length (fl D) ∧ Below w.heap.size w wr ∧ (∀ e ∈ D, e.1 ≤ b) ∧ D.length ≤ 4096
theorem fl_two (e : Int × Int) : fl [e] = [.int .u64 e.1, .int .u64 e.2] := rfl
theorem range_stop {L A C D : IL} {e : Int × Int} {a b : Int} (hs : Sorted L) (hL : L = A ++ C) (hA : ∀ e ∈ A, e.1 < a) (hC : ∀ e ∈ C, a ≤ e.1) (hp : (D ++ [e]) <+: C) (hD : ∀ e ∈ D, e.1 ≤ b) (he : b < e.1) : rangeL L a b = D := by
  obtain ⟨R, rfl⟩ := hp
  subst hL
  obtain ⟨_, s2, _⟩ := sorted_app hs
  obtain ⟨_, _, s3⟩ := sorted_app s2
  rw [List.append_assoc]
  refine range_cut hA (fun x hx => hC x (by simp only [List.mem_append] at hx ⊢; exact hx.elim (fun h => .inl (.inl h)) (fun h => h.elim (fun h => .inl (.inr h)) .inr))) hD (fun x hx => ?_)
  rcases List.mem_append.1 hx with hx | hx
  · simp at hx; subst hx; exact he
  · have := s3 e (by simp) x hx; omega
theorem range_done {L A D : IL} {a b : Int} (hL : L = A ++ D) (hA : ∀ e ∈ A, e.1 < a) (hC : ∀ e ∈ D, a ≤ e.1) (hD : ∀ e ∈ D, e.1 ≤ b) : rangeL L a b = D := by
  have := range_cut (R := []) hA (by simpa using hC) hD (by simp)
  rw [hL]
  simpa using this
set_option maxRecDepth 100000 in
set_option maxHeartbeats 2000000 in
theorem range_any {w : World} {B p : Nat} {F : Nat → Prop} {v : Value} {X : List Pg} (h : IdxAt w B F p v X) (a b : Int) (hn : (cont X).length ≤ 4096) (hX0 : 0 < X.length) :
    Calls Try.prog 21 #[.pointer (some ⟨p, 0, none⟩), .int .u64 a, .int .u64 b] w (RangeE w (rangeL (cont X) a b)) := by
  obtain ⟨i0, hi0, hz0, hz1, hz2⟩ := info_parts It.info42
  have hXl := cont_len h.fit
  have HF := Lib.hid (find_any h hX0 (by omega) a)
  have H := Lib.hid h
  obtain ⟨ao, cap, ev, hxc, hcell⟩ := h.slice
  obtain ⟨g, rfl, _⟩ := hcell hX0
  subst ev
  have n0 : (((cont X).length : Int) == 0) = false := beq_eq_false_iff_ne.2 (by omega)
  clear h hcell
  go_enter Try.func21, Try.ntmps21
  go_upto_region 5 with (first
    | (go_at_call 24; refine HF.out.mono ?_; rintro e w1 ⟨pg, i, ok, rfl, hR, hb1⟩; have HR := Lib.hid hR; have HB := Lib.hid hb1; clear hR hb1)
    | (go_at_call 18; refine (len_any H.out).mono ?_; rintro e _ ⟨rfl, rfl⟩))
  have h1 := H.out.below HB.out
  obtain ⟨t, ht, hi, hA, hC, hno, hyes⟩ := find_split h1.fit HR.out
  have hge : ∀ e ∈ t.P.drop i ++ cont (X.drop (pg + 1)), a ≤ e.1 := by
    obtain ⟨s, hs, _, _, h4, _⟩ := HR.out
    obtain rfl : s = t := by rw [ht] at hs; injection hs with hs; exact hs.symm
    exact h4
  have hpl0 := (List.getElem?_eq_some_iff.1 ht).1
  have hpl : (pg : Int) ≤ (X.length : Int) := by omega
  have hcp : ¬ cap = pg := by omega
  have c0 := h1.cells.1
  obtain ⟨N, hN⟩ : ∃ N : Nat, X.length - pg = N := ⟨_, rfl⟩
  have hall := dk_all ht hi
  have HT := Lib.hid (And.intro ht (And.intro hi (And.intro hA (And.intro hC (And.intro hge (And.intro hall hN))))))
  have H1 := Lib.hid h1
  clear ht hi hA hC hno hyes hge h1 hall
  go_wp2_with fail
  go_loopw [7, 9, 32] (fun v9 u9 u32 wr => ∃ k c : Nat, k ≤ N ∧ u32 = .int .i64 k ∧ u9 = .int .i64 c ∧ (k = 0 → c = i) ∧ (k ≠ 0 → c = 0) ∧ Hid (RgI w (Dk X pg i k) b v9 wr)) (fun _ _ u32 _ => N - (intOf u32).toNat)
  case atStart =>
    refine ⟨0, i, Nat.zero_le _, rfl, rfl, fun _ => rfl, fun h => absurd rfl h, Lib.hid ?_⟩
    rw [dk_zero]
    exact ⟨World.ownsRow_nil _ _ _ _, HB.out, by simp, by simp⟩
  case round =>
    obtain ⟨k, c, hk, rfl, rfl, hc0, hc1, I⟩ := hrel
    generalize wr = wo at *
    by_cases hlt : k < N
    · have hs := getD_at X (pg + k) default (by have := HT.out.2.2.2.2.2.2; omega)
      obtain ⟨s, es⟩ : ∃ s, s = X.getD (pg + k) default := ⟨_, rfl⟩
      rw [← es] at hs
      have hsP := (H.out.pgs s (List.mem_of_getElem? hs)).1
      have hs8 := H1.out.fit.one s (List.mem_of_getElem? hs)
      have hcs : c ≤ s.P.length := by
        by_cases hk0 : k = 0
        · subst hk0
          rw [hc0 rfl]
          have h5 := HT.out.1
          rw [Nat.add_zero, h5] at hs
          injection hs with hs
          rw [← hs]; exact HT.out.2.1
        · rw [hc1 hk0]; omega
      have hnx := dk_next HT.out.1 HT.out.2.1 hs hc0 hc1
      have hsc : s.P.length ≤ s.cap := by obtain ⟨_, _, _, h3, _⟩ := hsP; exact h3
      have c1w := H.out.reads hX0 (pg + k) s hs
      have c1 : wo.cell? ⟨g, pg + k, none⟩ = some (pv s) := (I.out.2.1.cell (p := ⟨g, pg + k, none⟩) (World.block_lt_of_cell? w _ c1w)).trans c1w
      have ic1 : (c : Int) ≤ (s.P.length : Int) := by omega
      have ikN : (k : Int) < (N : Int) := by omega
      have c9 : c ≤ 8 := by omega
      have k9 : k ≤ 4096 := by omega
      have HS := Lib.hid (And.intro hs (And.intro hsP (And.intro hnx (And.intro hs8 (And.intro hc0 hc1)))))
      unfold pv at c1
      clear es hs hsP hnx hs8 c1w
      obtain ⟨M, hM⟩ : ∃ M : Nat, s.P.length - c = M := ⟨_, rfl⟩
      by_cases hcap : s.cap = c
      · obtain rfl : M = 0 := by omega
        have HEl := Lib.hid (show s.P.drop c = [] from List.drop_eq_nil_of_le (by omega))
        have HCC := Lib.hid hcap
        have im := hM
        go_wp2_with fail
        go_loopw [7, 40] (fun v9 u40 wq => u40 = .int .i64 0 ∧ Hid (RgI w (Dk X pg i k) b v9 wq)) (fun _ _ _ => 0)
        case atStart => exact ⟨rfl, I⟩
        case round =>
          obtain ⟨rfl, J⟩ := hrel
          go_wp2_with fail
          go_roundw
          case rel =>
            refine ⟨k + 1, 0, by omega, by go_num, rfl, fun h => by omega, fun _ => rfl, ?_⟩
            rw [HS.out.2.2.1, HEl.out, List.append_nil]
            exact J
          case measure => simp [intOf]; omega
      · have im := hM
        go_wp2_with fail
        go_loopw [7, 40] (fun v9 u40 wq => ∃ m : Nat, m ≤ M ∧ u40 = .int .i64 m ∧ Hid (RgI w (Dk X pg i k ++ (s.P.drop c).take m) b v9 wq)) (fun _ u40 _ => M - (intOf u40).toNat)
        case atStart =>
          refine ⟨0, Nat.zero_le _, rfl, ?_⟩
          rw [List.take_zero, List.append_nil]
          exact I
        case round =>
          obtain ⟨m, hm, rfl, J⟩ := hrel
          by_cases hml : m < M
          · have hq := getD_at s.P (c + m) (0, 0) (by omega)
            obtain ⟨q, eq⟩ : ∃ q, q = s.P.getD (c + m) (0, 0) := ⟨_, rfl⟩
            rw [← eq] at hq
            have hPq : PgAt wr s := HS.out.2.1.on (J.out.2.1.block _ HS.out.2.1.lt)
            obtain ⟨d1, d2⟩ := hPq.cells hq
            rw [show (c + m) * 2 = c * 2 + m * 2 by omega] at d1 d2
            have iml : (m : Int) < (M : Int) := by omega
            have m9 : m ≤ 8 := by have := HS.out.2.2.2.1; omega
            have hdn : (s.P.drop c).take (m + 1) = (s.P.drop c).take m ++ [q] := by
              rw [List.take_succ_eq_append_getElem (by simp; omega)]
              congr 2
              obtain ⟨_, e⟩ := List.getElem?_eq_some_iff.1 hq
              rw [List.getElem_drop, e]
            have hpre : (Dk X pg i k ++ (s.P.drop c).take m) ++ [q] <+: t.P.drop i ++ cont (X.drop (pg + 1)) := by
              rw [List.append_assoc, ← hdn, ← HT.out.2.2.2.2.2.1]
              refine List.IsPrefix.trans ?_ ((dk_pre X pg i (k + 1)).resolve_right (by omega))
              rw [HS.out.2.2.1]
              exact (List.prefix_append_right_inj _).2 (List.take_prefix _ _)
            have hple : ((Dk X pg i k ++ (s.P.drop c).take m) ++ [q]).length ≤ 4096 := by
              have h5 := hpre.length_le
              have h6 := congrArg List.length HT.out.2.2.2.1
              simp only [List.length_append] at h5 h6 ⊢
              omega
            have HPRE := Lib.hid (And.intro hpre hple)
            clear hpre hple
            by_cases hqb : b < q.1
            · have HQ := Lib.hid (And.intro hq hdn)
              clear eq hPq hq hdn
              go_wp2_with fail
              go_ret
              obtain ⟨ht, hi, hA, hC, hge, hall, hN⟩ := HT.out
              obtain ⟨hs, hsP, hnx, hs8, _, _⟩ := HS.out
              obtain ⟨hq, hdn⟩ := HQ.out
              have hR := range_stop H1.out.fit.up hC hA hge HPRE.out.1 J.out.2.2.1 hqb
              rw [hR]
              exact ⟨u7, rfl, World.ownsRow.alloc J.out.1 _, J.out.2.1.alloc J.out.2.1.size _⟩
            · have HQ := Lib.hid (And.intro hq hdn)
              have hJl := J.out.2.2.2
              have HO := Lib.hid (World.ownsRow.alloc (World.ownsRow.alloc J.out.1 (.cells #[.int .u64 q.1, .int .u64 q.2] 42)) (.cells #[.int .u64 q.1, .int .u64 q.2] 42))
              have HBx := Lib.hid ((J.out.2.1.alloc J.out.2.1.size (.cells #[.int .u64 q.1, .int .u64 q.2] 42)).alloc (by have := J.out.2.1.size; simp; omega) (.cells #[.int .u64 q.1, .int .u64 q.2] 42))
              have HNx := Lib.hid (show ∀ j u, (fl [q])[j]? = some u → ((wr.alloc (.cells #[.int .u64 q.1, .int .u64 q.2] 42)).alloc (.cells #[.int .u64 q.1, .int .u64 q.2] 42)).cell? ((⟨wr.heap.size + 1, 0, none⟩ : Addr).add j) = some u from fun j u hu => by
                rw [Go.WideShapes.add_plain, Nat.zero_add]
                have := World.cell?_alloc_new (wr.alloc (.cells #[.int .u64 q.1, .int .u64 q.2] 42)) #[.int .u64 q.1, .int .u64 q.2] 42 j
                rw [show (wr.alloc (.cells #[.int .u64 q.1, .int .u64 q.2] 42)).heap.size = wr.heap.size + 1 by simp] at this
                rw [this]
                simpa [fl] using hu)
              obtain ⟨dl, hdl⟩ : ∃ dl, (Dk X pg i k ++ (s.P.drop c).take m).length = dl := ⟨_, rfl⟩
              have HDL := Lib.hid hdl
              clear eq hPq hq hdn hdl
              go_wp2_with (at_builtin; refine wpList_append_own_at _ rfl (.tmp 49) (.tmp 51) 52 rfl w.heap.size 42 i0 _ 2 16 Try.underlying52 hi0 hz0 hz1 hz2 rfl (by decide) _ _ _ rfl HO.out ⟨wr.heap.size + 1, 0, none⟩ 1 1 (fl [q]) rfl rfl HNx.out (It.fl_one _) (by unfold maxLen; omega) (by omega) HBx.out.size ?_; intro v' w3 hown3 hgrow3 _ _; have H3 := Lib.hid (And.intro hown3 (grown_below HBx.out hgrow3 (fun k e => (World.ownsRow.lt HO.out k e).1))); clear hown3 hgrow3)
              go_roundw
              case rel =>
                obtain ⟨hq, hdn⟩ := HQ.out
                refine ⟨m + 1, by omega, by go_num, Lib.hid ⟨?_, H3.out.2, ?_, ?_⟩⟩
                · rw [hdn, ← List.append_assoc, It.fl_app, List.length_append]; exact H3.out.1
                · rw [hdn, ← List.append_assoc]
                  intro e he
                  rcases List.mem_append.1 he with he | he
                  · exact J.out.2.2.1 e he
                  · simp at he; subst he; omega
                · rw [hdn, ← List.append_assoc]; exact HPRE.out.2
              case measure => simp [intOf]; omega
          · obtain rfl : m = M := by omega
            have HEl := Lib.hid (show (s.P.drop c).take m = s.P.drop c from List.take_of_length_le (by simp; omega))
            go_wp2_with fail
            go_roundw
            case rel =>
              refine ⟨k + 1, 0, by omega, by go_num, rfl, fun h => by omega, fun _ => rfl, ?_⟩
              rw [HS.out.2.2.1, ← HEl.out]
              exact J
            case measure => simp [intOf]; omega
    · obtain rfl : k = N := by omega
      go_wp2_with fail
      go_ret
      obtain ⟨ht, hi, hA, hC, hge, hall, hN⟩ := HT.out
      have hJ := I.out
      rw [← hN, hall] at hJ
      have hR := range_done (b := b) hC hA hge hJ.2.2.1
      rw [hR]
      exact ⟨u7, rfl, hJ.1, hJ.2.1⟩
end Go.Proofs.Ythjcohaldjfniaa.Ix
