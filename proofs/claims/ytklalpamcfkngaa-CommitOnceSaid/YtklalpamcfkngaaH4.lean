/- commit: CommitOnce, walked. -/
import Derived.Test.YtklalpamcfkngaaH3
namespace Go.Proofs.Ytklalpamcfkngaa.Cm
open Go Go.RowKit
theorem sum_row {w : World} {B a b : Nat} {v : Value} {As Bs : List OpI} (h : w.ownsRow B 36 8 v (0 + a + b) (([] ++ As.flatMap OpI.cells) ++ Bs.flatMap OpI.cells)) : ∃ ao cap, v = .slice ao (a + b) cap ∧ w.ownsRow B 36 8 (.slice ao (a + b) cap) (a + b) ((As ++ Bs).flatMap OpI.cells) := by
  rw [List.nil_append, ← List.flatMap_append, Nat.zero_add] at h
  obtain ⟨ao, cap, rfl, _, _⟩ := own_slice h
  exact ⟨ao, cap, rfl, h⟩
/-- The script, in a list of the call's own, and the books. -/
def OnI (X : (Nat → Prop) → World → Prop) (w0 : World) (p q k : Nat) (w : World) : Prop := ∃ RM T, Pair X w0 k p q RM T (fun _ => False) w
theorem pair_step {X : (Nat → Prop) → World → Prop} {w0 w : World} {n p q : Nat} {RM : TK → Option RunM} {T : TK → Option Int} {b : Nat} {o : OpI} (hX : Ext X) (ho : InK o.t) (h : Pair (XA b (.cells #[.int .u8 o.kd, .int .u8 o.t.1, .int .u32 o.t.2.1, .int .u32 o.t.2.2, .slice o.ao o.n o.c, .int .u8 o.x, .bool o.yes, .int .i64 o.nn] 36 (0, 0)) X) w0 n p q RM T (fun _ => False) w) {w1 : World} (hb : Below w.heap.size w w1) :
    (Calls Try.prog 10 #[.pointer (some ⟨p, 0, none⟩), .agg #[.int .u8 o.t.1, .int .u32 o.t.2.1, .int .u32 o.t.2.2]] w1 fun e w' => e = .returned (.int .i64 (stR (RM o.t))) ∧ Below w1.heap.size w1 w') ∧ (Calls Try.prog 11 #[.pointer (some ⟨p, 0, none⟩), .agg #[.int .u8 o.t.1, .int .u32 o.t.2.1, .int .u32 o.t.2.2]] w1 fun e w' => e = .returned (.int .i64 (stT (T o.t))) ∧ Below w1.heap.size w1 w') := by
  obtain ⟨F, hF⟩ := pair_bk (pair_below (ext_xa hX) h hb)
  exact ⟨runs_any hF ho, stands_any hF ho⟩
theorem once_was (o : OpI) (RM : TK → Option RunM) : (stR (RM o.t) = 3 ∧ stR (o.R RM o.t) = 3) ∨ (stR (RM o.t) = 4 ∧ stR (o.R RM o.t) = 4) ∨ ((stR (RM o.t) == 3) = false ∧ (stR (RM o.t) == 4) = false ∧ (stR (RM o.t) != 3) = true ∧ stR (o.R RM o.t) = 3 ∧ (o.kd != 2) = false) ∨ ((stR (RM o.t) == 3) = false ∧ (stR (RM o.t) == 4) = false ∧ (stR (o.R RM o.t) == 3) = false) := by
  by_cases h3 : stR (RM o.t) = 3
  · exact .inl ⟨h3, (run_stays o RM (.inl h3)).trans h3⟩
  · by_cases h4 : stR (RM o.t) = 4
    · exact .inr (.inl ⟨h4, (run_stays o RM (.inr h4)).trans h4⟩)
    · have e3 : (stR (RM o.t) == 3) = false := by simpa using h3
      have e4 : (stR (RM o.t) == 4) = false := by simpa using h4
      by_cases h5 : stR (o.R RM o.t) = 3
      · exact .inr (.inr (.inl ⟨e3, e4, by simpa using h3, h5, by simpa using run_commits o RM h5 h3⟩))
      · exact .inr (.inr (.inr ⟨e3, e4, by simpa using h5⟩))
theorem once_part (o : OpI) (T : TK → Option Int) : (stT (T o.t) = 3 ∧ stT (o.T T o.t) = 3) ∨ (stT (T o.t) = 4 ∧ stT (o.T T o.t) = 4) ∨ ((stT (T o.t) == 3) = false ∧ (stT (T o.t) == 4) = false) := by
  by_cases h3 : stT (T o.t) = 3
  · exact .inl ⟨h3, (take_stays o T (.inl h3)).trans h3⟩
  · by_cases h4 : stT (T o.t) = 4
    · exact .inr (.inl ⟨h4, (take_stays o T (.inr h4)).trans h4⟩)
    · exact .inr (.inr ⟨by simpa using h3, by simpa using h4⟩)
set_option maxRecDepth 100000 in
set_option maxHeartbeats 16000000 in
theorem once_law (so so2 : Option Addr) (N c N2 c2 : Nat) (Os Ms : List OpI) (w : World) (hl : Os.length = N) (hr : RdO w so Os) (hok : ∀ o ∈ Os, OkI w o) (hc : N ≤ c) (hz : so = none → c = 0)
    (hl2 : Ms.length = N2) (hr2 : RdO w so2 Ms) (hok2 : ∀ o ∈ Ms, OkI w o) (hc2 : N2 ≤ c2) (hz2 : so2 = none → c2 = 0) :
    Calls Try.prog 4 #[.slice so N c, .slice so2 N2 c2] w fun e w' => e = .returned (.bool true) ∧ Below w.heap.size w w' := by
  obtain ⟨i0, hi0, hz0, hz1, hz2'⟩ := info_parts info36
  have HI0 := Lib.hid (And.intro hi0 (And.intro hz0 (And.intro hz1 hz2')))
  obtain ⟨a, ha⟩ : ∃ a : Nat, min N 60 = a := ⟨_, rfl⟩
  obtain ⟨b, hb⟩ : ∃ b : Nat, min N2 60 = b := ⟨_, rfl⟩
  have m1 : min (N : Int) 60 = (a : Int) := by omega
  have m2 : min (N2 : Int) 60 = (b : Int) := by omega
  have a60 : a ≤ 60 := by omega
  have b60 : b ≤ 60 := by omega
  have ac : a ≤ c := by omega
  have bc : b ≤ c2 := by omega
  have la : (Os.take a).length = a := by rw [List.length_take]; omega
  have lb : (Ms.take b).length = b := by rw [List.length_take]; omega
  have HLA := Lib.hid (show ((Os.take a).flatMap OpI.cells).length = a * 8 by rw [fm_len len8, la])
  have HLB := Lib.hid (show ((Ms.take b).flatMap OpI.cells).length = b * 8 by rw [fm_len len8, lb])
  have HOK := Lib.hid (show ∀ o ∈ Os.take a ++ Ms.take b, OkI w o from fun o ho => by
    rcases List.mem_append.1 ho with h | h
    · exact hok o (List.mem_of_mem_take h)
    · exact hok2 o (List.mem_of_mem_take h))
  have HLS := Lib.hid (show (Os.take a ++ Ms.take b).length = a + b by rw [List.length_append, la, lb])
  have HI := Lib.hid (And.intro hr hr2)
  have HZ := Lib.hid (And.intro hz (And.intro hz2 (And.intro hc (And.intro hc2 (And.intro ha hb)))))
  clear hi0 hz0 hz1 hz2' ha hb la lb hok hok2 hr hr2 hz hz2 hl hl2 hc hc2
  go_enter Try.func4, Try.ntmps4
  go_upto_region 6 with (first
    | (have hh := H1; clear hh; go_at_call 8; refine (new_any w.heap.size _ H1.out.size).mono ?_; rintro e w2 ⟨rfl, hk, hb⟩; have H2 := Lib.hid (And.intro hk (And.intro (H1.out.trans (hb.mono H1.out.size)) (show w1.heap.size ≤ w2.heap.size from hb.size))); clear hk hb)
    | (go_at_call 7; refine (awake_any _).mono ?_; rintro e w1 ⟨rfl, hb⟩; have H1 := Lib.hid hb; clear hb))
  have H3 := Lib.hid (show Pair X0 w 0 (w1.heap.size + 2) w2.heap.size (fun _ => none) (fun _ => none) (fun _ => False) (w2.alloc (.cells #[.slice none 0 0, .slice none 0 0] 30)) from pair_new ext_x0 H2.out.2.1 H2.out.1 (G := fun _ => False) (fun _ => id) (fun _ _ => id))
  clear H1 H2
  generalize w2.alloc (.cells #[.slice none 0 0, .slice none 0 0] 30) = W at H3 ⊢
  generalize w1.heap.size + 2 = p at H3 ⊢
  generalize w2.heap.size = q at H3 ⊢
  have HR1 := Lib.hid (HI.out.1.on (pair_ahead H3.out) (Nat.le_refl _))
  have HR2 := Lib.hid (HI.out.2.on (pair_ahead H3.out) (Nat.le_refl _))
  go_cut [7] from 8 (fun s7 wx => ∃ ao cap, s7 = .slice ao (a + b) cap ∧ Hid (wx.ownsRow W.heap.size 36 8 (.slice ao (a + b) cap) (a + b) ((Os.take a ++ Ms.take b).flatMap OpI.cells) ∧ Below W.heap.size W wx))
  case first =>
    as_aux_lemma =>
      cases so with
      | none =>
        obtain ⟨rfl, rfl, rfl⟩ : c = 0 ∧ N = 0 ∧ a = 0 := by have h1 := HZ.out.1 rfl; have h2 := HZ.out.2.2.1; have h3 := HZ.out.2.2.2.2.1; omega
        have HN1 := Lib.hid (show ∀ wz : World, wz.ownsRow W.heap.size 36 8 (.slice none 0 0) (0 + 0) ([] ++ (Os.take 0).flatMap OpI.cells) from fun wz => by simpa using World.ownsRow_nil _ _ _ _)
        cases so2 with
        | none =>
          obtain ⟨rfl, rfl, rfl⟩ : c2 = 0 ∧ N2 = 0 ∧ b = 0 := by have h1 := HZ.out.2.1 rfl; have h2 := HZ.out.2.2.2.1; have h3 := HZ.out.2.2.2.2.2; omega
          have HN2 := Lib.hid (show ∀ (wz : World) (v : Value) (n : Nat) (xs : List Value), wz.ownsRow W.heap.size 36 8 v n xs → wz.ownsRow W.heap.size 36 8 v (n + 0) (xs ++ (Ms.take 0).flatMap OpI.cells) from fun wz v n xs h => by simpa using h)
          have z0 : min (0 : Int) 60 = 0 := by decide
          go_region_held3 (fun _ => True) (exact trivial) (first | (have hh := G1; clear hh; refine step_append_none _ rfl (.tmp 25) (.tmp 30) 22 rfl W.heap.size 36 i0 8 Try.underlying22 HI0.out.1 (.slice none 0 0) (0 + 0) _ rfl G1.out.1 rfl ?_; have G2 := Lib.hid (show W.drew.ownsRow W.heap.size 36 8 (.slice none 0 0) (0 + 0 + 0) (([] ++ (Os.take 0).flatMap OpI.cells) ++ (Ms.take 0).flatMap OpI.cells) ∧ Below W.heap.size W W.drew from ⟨HN2.out W.drew _ _ _ G1.out.1, G1.out.2⟩)) | (refine step_append_none _ rfl (.tmp 19) (.tmp 24) 22 rfl W.heap.size 36 i0 8 Try.underlying22 HI0.out.1 (.slice none 0 0) 0 [] rfl (World.ownsRow_nil _ _ _ _) rfl ?_; have G1 := Lib.hid (show W.drew.ownsRow W.heap.size 36 8 (.slice none 0 0) (0 + 0) ([] ++ (Os.take 0).flatMap OpI.cells) ∧ Below W.heap.size W W.drew from ⟨HN1.out W.drew, below_drew W⟩)))
          all_goals
            go_wp2_with fail
            go_meet
            obtain ⟨ao, cap, hv, hr⟩ := sum_row G2.out.1
            exact ⟨ao, cap, hv, Lib.hid ⟨hr, G2.out.2⟩⟩
        | some ad2 =>
          have z0 : min (0 : Int) 60 = 0 := by decide
          have ib : (0 : Int) ≤ (b : Int) := by omega
          have jb : (b : Int) ≤ (c2 : Int) := by omega
          go_region_held3 (fun _ => True) (exact trivial) (first | (have hh := G1; clear hh; refine step_append_own _ rfl (.tmp 25) (.tmp 30) 22 rfl W.heap.size 36 i0 _ 8 56 Try.underlying22 HI0.out.1 HI0.out.2.1 HI0.out.2.2.1 HI0.out.2.2.2 rfl (by decide) (.slice none 0 0) (0 + 0) _ rfl G1.out.1 _ b _ ((Ms.take b).flatMap OpI.cells) rfl HLB.out (rdo_news (HR2.out.on (B := W.heap.size) G1.out.2 (Nat.le_refl _)) b) (one8 _) (by unfold maxLen; omega) (by omega) G1.out.2.size ?_; intro v2 w4 hown hgrow; have G2 := Lib.hid (show w4.ownsRow W.heap.size 36 8 v2 (0 + 0 + b) (([] ++ (Os.take 0).flatMap OpI.cells) ++ (Ms.take b).flatMap OpI.cells) ∧ Below W.heap.size W w4 from ⟨hown, G1.out.2.grown hgrow G1.out.2.size (fun g e => (World.ownsRow.lt G1.out.1 g e).1)⟩); clear hown hgrow) | (refine step_append_none _ rfl (.tmp 19) (.tmp 24) 22 rfl W.heap.size 36 i0 8 Try.underlying22 HI0.out.1 (.slice none 0 0) 0 [] rfl (World.ownsRow_nil _ _ _ _) rfl ?_; have G1 := Lib.hid (show W.drew.ownsRow W.heap.size 36 8 (.slice none 0 0) (0 + 0) ([] ++ (Os.take 0).flatMap OpI.cells) ∧ Below W.heap.size W W.drew from ⟨HN1.out W.drew, below_drew W⟩)))
          all_goals
            go_wp2_with fail
            go_meet
            obtain ⟨ao, cap, hv, hr⟩ := sum_row G2.out.1
            exact ⟨ao, cap, hv, Lib.hid ⟨hr, G2.out.2⟩⟩
      | some ad =>
        cases so2 with
        | none =>
          obtain ⟨rfl, rfl, rfl⟩ : c2 = 0 ∧ N2 = 0 ∧ b = 0 := by have h1 := HZ.out.2.1 rfl; have h2 := HZ.out.2.2.2.1; have h3 := HZ.out.2.2.2.2.2; omega
          have HN2 := Lib.hid (show ∀ (wz : World) (v : Value) (n : Nat) (xs : List Value), wz.ownsRow W.heap.size 36 8 v n xs → wz.ownsRow W.heap.size 36 8 v (n + 0) (xs ++ (Ms.take 0).flatMap OpI.cells) from fun wz v n xs h => by simpa using h)
          have z0 : min (0 : Int) 60 = 0 := by decide
          have ia : (0 : Int) ≤ (a : Int) := by omega
          have ja : (a : Int) ≤ (c : Int) := by omega
          go_region_held3 (fun _ => True) (exact trivial) (first | (have hh := G1; clear hh; refine step_append_none _ rfl (.tmp 25) (.tmp 30) 22 rfl W.heap.size 36 i0 8 Try.underlying22 HI0.out.1 v1 (0 + a) _ rfl G1.out.1 rfl ?_; have G2 := Lib.hid (show w3.ownsRow W.heap.size 36 8 v1 (0 + a + 0) (([] ++ (Os.take a).flatMap OpI.cells) ++ (Ms.take 0).flatMap OpI.cells) ∧ Below W.heap.size W w3 from ⟨HN2.out w3 _ _ _ G1.out.1, G1.out.2⟩)) | (refine step_append_own _ rfl (.tmp 19) (.tmp 24) 22 rfl W.heap.size 36 i0 _ 8 56 Try.underlying22 HI0.out.1 HI0.out.2.1 HI0.out.2.2.1 HI0.out.2.2.2 rfl (by decide) (.slice none 0 0) 0 [] rfl (World.ownsRow_nil _ _ _ _) _ a _ ((Os.take a).flatMap OpI.cells) rfl HLA.out (rdo_news (HR1.out.on (B := W.heap.size) (below_drew W) (Nat.le_refl _)) a) (one8 _) (by unfold maxLen; omega) (by omega) (by simp) ?_; intro v1 w3 hown hgrow; have G1 := Lib.hid (show w3.ownsRow W.heap.size 36 8 v1 (0 + a) ([] ++ (Os.take a).flatMap OpI.cells) ∧ Below W.heap.size W w3 from ⟨hown, (below_drew W).trans (((Below.refl _ _).grown hgrow (Nat.le_refl _) (fun g e => by cases e)))⟩); clear hown hgrow))
          all_goals
            go_wp2_with fail
            go_meet
            obtain ⟨ao, cap, hv, hr⟩ := sum_row G2.out.1
            exact ⟨ao, cap, hv, Lib.hid ⟨hr, G2.out.2⟩⟩
        | some ad2 =>
          have ia : (0 : Int) ≤ (a : Int) := by omega
          have ja : (a : Int) ≤ (c : Int) := by omega
          have ib : (0 : Int) ≤ (b : Int) := by omega
          have jb : (b : Int) ≤ (c2 : Int) := by omega
          go_region_held3 (fun _ => True) (exact trivial) (first | (have hh := G1; clear hh; refine step_append_own _ rfl (.tmp 25) (.tmp 30) 22 rfl W.heap.size 36 i0 _ 8 56 Try.underlying22 HI0.out.1 HI0.out.2.1 HI0.out.2.2.1 HI0.out.2.2.2 rfl (by decide) v1 (0 + a) _ rfl G1.out.1 _ b _ ((Ms.take b).flatMap OpI.cells) rfl HLB.out (rdo_news (HR2.out.on (B := W.heap.size) G1.out.2 (Nat.le_refl _)) b) (one8 _) (by unfold maxLen; omega) (by omega) G1.out.2.size ?_; intro v2 w4 hown hgrow; have G2 := Lib.hid (show w4.ownsRow W.heap.size 36 8 v2 (0 + a + b) (([] ++ (Os.take a).flatMap OpI.cells) ++ (Ms.take b).flatMap OpI.cells) ∧ Below W.heap.size W w4 from ⟨hown, G1.out.2.grown hgrow G1.out.2.size (fun g e => (World.ownsRow.lt G1.out.1 g e).1)⟩); clear hown hgrow) | (refine step_append_own _ rfl (.tmp 19) (.tmp 24) 22 rfl W.heap.size 36 i0 _ 8 56 Try.underlying22 HI0.out.1 HI0.out.2.1 HI0.out.2.2.1 HI0.out.2.2.2 rfl (by decide) (.slice none 0 0) 0 [] rfl (World.ownsRow_nil _ _ _ _) _ a _ ((Os.take a).flatMap OpI.cells) rfl HLA.out (rdo_news (HR1.out.on (B := W.heap.size) (below_drew W) (Nat.le_refl _)) a) (one8 _) (by unfold maxLen; omega) (by omega) (by simp) ?_; intro v1 w3 hown hgrow; have G1 := Lib.hid (show w3.ownsRow W.heap.size 36 8 v1 (0 + a) ([] ++ (Os.take a).flatMap OpI.cells) ∧ Below W.heap.size W w3 from ⟨hown, (below_drew W).trans (((Below.refl _ _).grown hgrow (Nat.le_refl _) (fun g e => by cases e)))⟩); clear hown hgrow))
          all_goals
            go_wp2_with fail
            go_meet
            obtain ⟨ao, cap, hv, hr⟩ := sum_row G2.out.1
            exact ⟨ao, cap, hv, Lib.hid ⟨hr, G2.out.2⟩⟩
  case rest =>
    as_aux_lemma =>
      obtain ⟨ao, cap, rfl, HC⟩ := hcut
      obtain ⟨X, hX, hXR, hP⟩ := own_ext HC.out.1 ((two_abs ext_x0).more H3.out HC.out.2) (fun g h1 h2 => .inr ⟨h1, h2⟩)
      have HX := Lib.hid hX
      have HXR := Lib.hid hXR
      have H4 := Lib.hid (show OnI X w p q 0 wc from ⟨_, _, hP⟩)
      obtain ⟨M, hM⟩ : ∃ M, a + b = M := ⟨_, rfl⟩
      have hM120 : M ≤ 120 := by omega
      have HM := Lib.hid (HLS.out.trans hM)
      rw [hM]
      clear hX hXR hP H3 HC m1 m2 a60 b60 ac bc HR1 HR2 HZ HLA HLB hM
      go_wp2_with fail
      go_loopw [34] (fun iv wr => ∃ k : Nat, k ≤ M ∧ iv = .int .i64 k ∧ Hid (OnI X w p q k wr)) (fun i _ => M - (intOf i).toNat)
      case atStart => exact ⟨0, Nat.zero_le _, rfl, H4⟩
      case round =>
        obtain ⟨k, hk, rfl, HR⟩ := hrel
        clear H4
        by_cases hlt : k < M
        · obtain ⟨o, ho⟩ : ∃ o, (Os.take a ++ Ms.take b)[k]? = some o := ⟨_, List.getElem?_eq_getElem (by rw [HM.out]; exact hlt)⟩
          obtain ⟨RM, T, hp⟩ := HR.out
          obtain ⟨G, hG⟩ := pair_x hp
          obtain ⟨gb, off, rfl, c0, c1, c2, c3, c4, c5, c6, c7⟩ := (HXR.out G _ hG).at ho
          have HO := Lib.hid (HOK.out o (List.mem_of_getElem? ho))
          have HP := Lib.hid (pair_box HX.out hp #[.int .u8 o.kd, .int .u8 o.t.1, .int .u32 o.t.2.1, .int .u32 o.t.2.2, .slice o.ao o.n o.c, .int .u8 o.x, .bool o.yes, .int .i64 o.nn] 36)
          clear ho hp hG HR
          go_upto_region 10 with fail
          obtain ⟨_, a1, a2, a3, _⟩ := ob_cells (pair_has HP.out)
          go_region_held3 (fun w' => w'.cell? ⟨wr.heap.size, 1, none⟩ = some (.int .u8 o.t.1) ∧ w'.cell? ⟨wr.heap.size, 2, none⟩ = some (.int .u32 o.t.2.1) ∧ w'.cell? ⟨wr.heap.size, 3, none⟩ = some (.int .u32 o.t.2.2)) (first | exact ⟨a1, a2, a3⟩ | exact ⟨P11, P12, P13⟩ | exact ⟨R11, R12, R13⟩)
            (first
              | (have hh := P1; clear hh; go_at_call 11; refine ((pair_step HX.out HO.out.ink HP.out P1.out).2).mono ?_; rintro e y2 ⟨rfl, hb⟩; have R1 := Lib.hid (P1.out.trans (hb.mono P1.out.size)); obtain ⟨_, R11, R12, R13, _⟩ := ob_cells ((R1.out.block wr.heap.size (Array.getElem?_eq_some_iff.1 (pair_has HP.out)).1).trans (pair_has HP.out)); clear hb)
              | (go_at_call 10; refine ((pair_step HX.out HO.out.ink HP.out (below_drew _)).1).mono ?_; rintro e y1 ⟨rfl, hb⟩; have P1 := Lib.hid ((below_drew _).trans (hb.mono (Nat.le_refl _))); obtain ⟨_, P11, P12, P13, _⟩ := ob_cells ((P1.out.block wr.heap.size (Array.getElem?_eq_some_iff.1 (pair_has HP.out)).1).trans (pair_has HP.out)); clear hb))
          have HPQ := Lib.hid (pair_below (ext_xa HX.out) HP.out R1.out)
          obtain ⟨e0, e1, e2, e3, e4, e5, e6, e7⟩ := ob_cells (pair_has HPQ.out)
          go_upto_region 13 with (go_at_call 9; refine (play_pair (ext_xa HX.out) o HO.out (by omega) HPQ.out).mono ?_; rintro e w3 ⟨rfl, hz, _⟩; have K3 := Lib.hid hz; obtain ⟨d0, d1, d2, d3, d4, d5, d6, d7⟩ := ob_cells (pair_has hz); clear hz)
          go_region_held3 (fun w' => w'.cell? ⟨wr.heap.size, 1, none⟩ = some (.int .u8 o.t.1) ∧ w'.cell? ⟨wr.heap.size, 2, none⟩ = some (.int .u32 o.t.2.1) ∧ w'.cell? ⟨wr.heap.size, 3, none⟩ = some (.int .u32 o.t.2.2)) (first | exact ⟨d1, d2, d3⟩ | exact ⟨P41, P42, P43⟩ | exact ⟨R41, R42, R43⟩)
            (first
              | (have hh := P4; clear hh; go_at_call 11; refine ((pair_step HX.out HO.out.ink K3.out P4.out).2).mono ?_; rintro e y4 ⟨rfl, hb⟩; have R4 := Lib.hid (P4.out.trans (hb.mono P4.out.size)); obtain ⟨_, R41, R42, R43, _⟩ := ob_cells ((R4.out.block wr.heap.size (Array.getElem?_eq_some_iff.1 (pair_has K3.out)).1).trans (pair_has K3.out)); clear hb)
              | (go_at_call 10; refine ((pair_step HX.out HO.out.ink K3.out (below_drew _)).1).mono ?_; rintro e y3 ⟨rfl, hb⟩; have P4 := Lib.hid ((below_drew _).trans (hb.mono (Nat.le_refl _))); obtain ⟨_, P41, P42, P43, _⟩ := ob_cells ((P4.out.block wr.heap.size (Array.getElem?_eq_some_iff.1 (pair_has K3.out)).1).trans (pair_has K3.out)); clear hb))
          obtain ⟨_, _, _, _, _, _, _, _⟩ := ob_cells ((R4.out.block wr.heap.size (Array.getElem?_eq_some_iff.1 (pair_has K3.out)).1).trans (pair_has K3.out))
          have hwas := once_was o RM
          have hpart := once_part o T
          generalize stR (o.R RM o.t) = s' at hwas ⊢
          generalize stR (RM o.t) = s at hwas ⊢
          generalize stT (o.T T o.t) = z' at hpart ⊢
          generalize stT (T o.t) = z at hpart ⊢
          rcases hpart with ⟨rfl, rfl⟩ | ⟨rfl, rfl⟩ | ⟨p3, p4⟩
          · rcases hwas with ⟨rfl, rfl⟩ | ⟨rfl, rfl⟩ | ⟨s3, s4, sn, rfl, k2⟩ | ⟨s3, s4, n3⟩
            · go_wp2_with fail
              have HN := Lib.hid (show OnI X w p q (k + 1) y4 from ⟨_, _, pair_out (pair_below (ext_xa HX.out) K3.out R4.out)⟩)
              go_roundw
              case rel => exact ⟨k + 1, by omega, by go_num, HN⟩
              case measure => simp [intOf]; omega
            · go_wp2_with fail
              have HN := Lib.hid (show OnI X w p q (k + 1) y4 from ⟨_, _, pair_out (pair_below (ext_xa HX.out) K3.out R4.out)⟩)
              go_roundw
              case rel => exact ⟨k + 1, by omega, by go_num, HN⟩
              case measure => simp [intOf]; omega
            · go_wp2_with fail
              have HN := Lib.hid (show OnI X w p q (k + 1) y4 from ⟨_, _, pair_out (pair_below (ext_xa HX.out) K3.out R4.out)⟩)
              go_roundw
              case rel => exact ⟨k + 1, by omega, by go_num, HN⟩
              case measure => simp [intOf]; omega
            · go_wp2_with fail
              have HN := Lib.hid (show OnI X w p q (k + 1) y4 from ⟨_, _, pair_out (pair_below (ext_xa HX.out) K3.out R4.out)⟩)
              go_roundw
              case rel => exact ⟨k + 1, by omega, by go_num, HN⟩
              case measure => simp [intOf]; omega
          · rcases hwas with ⟨rfl, rfl⟩ | ⟨rfl, rfl⟩ | ⟨s3, s4, sn, rfl, k2⟩ | ⟨s3, s4, n3⟩
            · go_wp2_with fail
              have HN := Lib.hid (show OnI X w p q (k + 1) y4 from ⟨_, _, pair_out (pair_below (ext_xa HX.out) K3.out R4.out)⟩)
              go_roundw
              case rel => exact ⟨k + 1, by omega, by go_num, HN⟩
              case measure => simp [intOf]; omega
            · go_wp2_with fail
              have HN := Lib.hid (show OnI X w p q (k + 1) y4 from ⟨_, _, pair_out (pair_below (ext_xa HX.out) K3.out R4.out)⟩)
              go_roundw
              case rel => exact ⟨k + 1, by omega, by go_num, HN⟩
              case measure => simp [intOf]; omega
            · go_wp2_with fail
              have HN := Lib.hid (show OnI X w p q (k + 1) y4 from ⟨_, _, pair_out (pair_below (ext_xa HX.out) K3.out R4.out)⟩)
              go_roundw
              case rel => exact ⟨k + 1, by omega, by go_num, HN⟩
              case measure => simp [intOf]; omega
            · go_wp2_with fail
              have HN := Lib.hid (show OnI X w p q (k + 1) y4 from ⟨_, _, pair_out (pair_below (ext_xa HX.out) K3.out R4.out)⟩)
              go_roundw
              case rel => exact ⟨k + 1, by omega, by go_num, HN⟩
              case measure => simp [intOf]; omega
          · rcases hwas with ⟨rfl, rfl⟩ | ⟨rfl, rfl⟩ | ⟨s3, s4, sn, rfl, k2⟩ | ⟨s3, s4, n3⟩
            · go_wp2_with fail
              have HN := Lib.hid (show OnI X w p q (k + 1) y4 from ⟨_, _, pair_out (pair_below (ext_xa HX.out) K3.out R4.out)⟩)
              go_roundw
              case rel => exact ⟨k + 1, by omega, by go_num, HN⟩
              case measure => simp [intOf]; omega
            · go_wp2_with fail
              have HN := Lib.hid (show OnI X w p q (k + 1) y4 from ⟨_, _, pair_out (pair_below (ext_xa HX.out) K3.out R4.out)⟩)
              go_roundw
              case rel => exact ⟨k + 1, by omega, by go_num, HN⟩
              case measure => simp [intOf]; omega
            · go_wp2_with fail
              have HN := Lib.hid (show OnI X w p q (k + 1) y4 from ⟨_, _, pair_out (pair_below (ext_xa HX.out) K3.out R4.out)⟩)
              go_roundw
              case rel => exact ⟨k + 1, by omega, by go_num, HN⟩
              case measure => simp [intOf]; omega
            · go_wp2_with fail
              have HN := Lib.hid (show OnI X w p q (k + 1) y4 from ⟨_, _, pair_out (pair_below (ext_xa HX.out) K3.out R4.out)⟩)
              go_roundw
              case rel => exact ⟨k + 1, by omega, by go_num, HN⟩
              case measure => simp [intOf]; omega
        · obtain ⟨RM, T, hp⟩ := HR.out
          have HF := Lib.hid (pair_ahead hp)
          clear hp
          go_wp2_with fail
          go_ret
          exact ⟨rfl, HF.out⟩
end Go.Proofs.Ytklalpamcfkngaa.Cm
