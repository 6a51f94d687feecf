/- bag: Put, and the document's; a row of both kinds. -/
import Derived.Test.YthjcllgjojldjaaA5
namespace Go.Proofs.Ythjcllgjojldjaa.Bg
open Go Go.RowKit
theorem one_slice (g n c : Nat) : ∀ u ∈ [Value.slice (some ⟨g, 0, none⟩) n c], u.oneCell' = true := by
  intro u hu
  simp at hu
  subst hu
  rfl
theorem msg_of_own {w : World} {B g n c : Nat} {l : List Int} (h : Own w B (.slice (some ⟨g, 0, none⟩) n c) l) (hl : l.length = n) (h0 : 0 < n) (h1 : n ≤ 16384) : MgAt w ⟨g, c, l⟩ := by
  subst hl
  refine ⟨⟨h.1, ?_⟩, h0, h1⟩
  rcases h.2 with ⟨h2, _⟩ | ⟨g', cap, cur, h2, h3, h4⟩
  · cases h2
  · cases h2
    exact .inr ⟨g, c, cur, rfl, Nat.le_refl _, h4⟩
set_option maxHeartbeats 2000000 in
theorem put_long (a : Option Addr) (ao : Option Addr) (n c : Nat) (w : World) (hn : 16384 < n) : Calls Try.prog 13 #[.pointer a, .slice ao n c] w fun e w' => e = .returned (.int .i64 2) ∧ w = w' := by
  have h1 : (16384 : Int) < (n : Int) := by omega
  go_enter Try.func13, Try.ntmps13
  go_wp2
  go_ret
  exact ⟨rfl, rfl⟩
theorem put_form (a : Option Addr) (ao : Option Addr) (c : Nat) (w : World) : Calls Try.prog 13 #[.pointer a, .slice ao 0 c] w fun e w' => e = .returned (.int .i64 3) ∧ w = w' := by
  go_enter Try.func13, Try.ntmps13
  go_wp2
  go_ret
  exact ⟨rfl, rfl⟩
theorem put_nil (ao : Option Addr) (n c : Nat) (w : World) (hn : n ≤ 16384) (h0 : 0 < n) : Calls Try.prog 13 #[.pointer none, .slice ao n c] w fun e w' => e = .returned (.int .i64 6) ∧ w = w' := by
  have h1 : ¬ (16384 : Int) < (n : Int) := by omega
  have h2 : ((n : Int) == 0) = false := beq_eq_false_iff_ne.2 (by omega)
  go_enter Try.func13, Try.ntmps13
  go_wp2
  go_ret
  exact ⟨rfl, rfl⟩
theorem put_full {B : Nat} {w : World} {X : Bx} (h : BagAt 50 B w X) (hf : X.M.length = 2000) (ao : Option Addr) (n c : Nat) (hn : n ≤ 16384) (h0 : 0 < n) : Calls Try.prog 13 #[.pointer (some ⟨X.p, 0, none⟩), .slice ao n c] w fun e w' => e = .returned (.int .i64 10) ∧ w = w' := by
  have h1 : ¬ (16384 : Int) < (n : Int) := by omega
  have h2 : ((n : Int) == 0) = false := beq_eq_false_iff_ne.2 (by omega)
  have c0 := h.c0
  obtain ⟨ao', cap, hv, _⟩ := row_form h.row
  rw [hv, hf] at c0
  clear h hv hf
  go_enter Try.func13, Try.ntmps13
  go_wp2
  go_ret
  exact ⟨rfl, rfl⟩
set_option maxHeartbeats 4000000 in
theorem put_ok {B : Nat} {w : World} {X : Bx} (h : BagAt 50 B w X) (hB : B ≤ w.heap.size) (hf : X.M.length < 2000) (a : Addr) (n c : Nat) (l : List Int) (hl : l.length = n) (hr : Rd w (some a) l) (hn : n ≤ 16384) (h0 : 0 < n) :
    Calls Try.prog 13 #[.pointer (some ⟨X.p, 0, none⟩), .slice (some a) n c] w fun e w' => e = .returned (.int .i64 0) ∧ DidB 50 B X (X.M.map Mg.l ++ [l]) w w' := by
  have h1 : ¬ (16384 : Int) < (n : Int) := by omega
  have h2 : ((n : Int) == 0) = false := beq_eq_false_iff_ne.2 (by omega)
  have HC := Lib.hid (clone_any a n c l w.drew (by omega) hl h0 (hr.on (Below.refl _ w).drew (Nat.le_refl _)))
  unfold GivesS at HC
  rw [hl] at HC
  obtain ⟨p, v, M⟩ := X
  have c0 := h.c0
  have c1 := (h.below (Below.refl _ w).drew).c0
  obtain ⟨ao', cap, hv, hnc, hcm⟩ := row_form h.row
  simp only at hv hf c0 c1
  subst hv
  have hpl := h.lt (.inl rfl)
  have H := Lib.hid h
  have HL := Lib.hid hl
  obtain ⟨i0, hi0, hz0, hz1, hz2⟩ := info_parts info30
  have HI := Lib.hid (And.intro hi0 (And.intro hz0 (And.intro hz1 hz2)))
  clear hi0 hz0 hz1 hz2 h hr hl
  generalize hm : M.length = m at *
  have HM := Lib.hid hm
  clear hm
  have hm3 : ¬ 2000 ≤ (m : Int) := by omega
  go_enter Try.func13, Try.ntmps13
  go_upto_region 9 with fail
  go_region_law (first
    | (refine step_append_lies _ (by rfl) (.tmp 27) (.tmp 30) 27 (by rfl) B 30 i0 _ 1 24 Try.underlying27 HI.out.1 HI.out.2.1 HI.out.2.2.1 HI.out.2.2.2 (by rfl) (by decide) (.slice ao' m cap) m (rowM M) (by rfl) (HO3.out.alloc _) ⟨w3.heap.size, 0, none⟩ 1 1 [.slice (some ⟨g3, 0, none⟩) n c3] (by rfl) (by rfl) (news_one w3 _ 30) (one_slice g3 n c3) (by decide) (by unfold maxLen; omega) (by omega) (by simp; have := HB3.out.size; omega) (w3.heap.size + 1) (by simp) ?_; intro g4 cap4 w4 hown4 hgrow4 hgn4 _; have HP := Lib.hid (p_kept (by decide) H.out (HB3.out.trans ((Below.refl _ w3).alloc HB3.out.size _)) hgrow4); have hp1 := HP.out.1; have hp2 := HP.out.2.1; have hp3 := HP.out.2.2; simp only at hp1 hp2 hp3; have H4 := Lib.hid (And.intro hown4 (And.intro hgrow4 hgn4)); clear hown4 hgrow4 hgn4)
    | (go_simp; go_at_call 24; refine HC.out.mono ?_; rintro e' w3 ⟨g3, c3, rfl, ⟨ho3, hr3⟩, hb3⟩; have HB3 : Hid (Below w.heap.size w w3) := Lib.hid ((Below.refl _ w).drew.trans hb3); have HO3 : Hid (w3.ownsRow B 30 1 (.slice ao' m cap) m (rowM M)) := Lib.hid (by have := (H.out.below HB3.out).row; simp only at this; rwa [HM.out] at this); have HR3 := Lib.hid (show Own w3 w.heap.size _ _ from ho3); have q3 : w3.cell? ⟨p, 0, none⟩ = some (.slice ao' m cap) := (H.out.below HB3.out).c0; have z3 := HB3.out.size; have zl : p < w3.heap.size := (H.out.below HB3.out).lt (.inl rfl); clear ho3 hr3 hb3))
  all_goals
    go_wp2_with fail
    go_ret
    refine ⟨rfl, ?_⟩
    obtain ⟨hown4, hgrow4, hgn4⟩ := H4.out
    have hb1 : Below w.heap.size w (w3.alloc (.cells #[.slice (some ⟨g3, 0, none⟩) n c3] 30)) := HB3.out.alloc HB3.out.size _
    have hgl := (World.ownsRow.lt HR3.out g3 rfl)
    have hmg : MgAt w3 ⟨g3, c3, l⟩ := msg_of_own HR3.out HL.out (by omega) (by omega)
    refine put_did (X := ⟨p, .slice ao' m cap, M⟩) (X0 := ⟨p, .slice ao' m cap, M⟩) (m := ⟨g3, c3, l⟩) (by decide) (by decide) H.out hb1 (hmg.on (heap_alloc_old w3 _ hgl.2)) (fun k hk e => by have := H.out.lt hk; have := hgl.1; simp only at e; omega) (Nat.le_trans hB hgl.1) HM.out (by omega) (by show w4.ownsRow B 30 1 _ _ (rowM M ++ [.slice (some ⟨g3, 0, none⟩) l.length c3]); rw [HL.out]; exact hown4) hgrow4 (hgn4.imp id (fun e => by rw [e]; simp)) rfl (Turned.refl _ _) (fun k hk => ?_) (fun k hk => .inl hk)
    rcases hk with hk | hk
    · exact .inl hk
    · exact .inr (by rw [hk]; exact hgl.1)
def putE (n : Nat) (full : Bool) : Int := if 16384 < n then 2 else if n = 0 then 3 else if full then 10 else 0
set_option maxHeartbeats 2000000 in
theorem dput_long (a : Option Addr) (ao : Option Addr) (n c : Nat) (w : World) (hn : 16384 < n) : Calls Try.prog 20 #[.pointer a, .slice ao n c] w fun e w' => e = .returned (.int .i64 2) ∧ w = w' := by
  have h1 : (16384 : Int) < (n : Int) := by omega
  go_enter Try.func20, Try.ntmps20
  go_wp2
  go_ret
  exact ⟨rfl, rfl⟩
theorem dput_form (a : Option Addr) (ao : Option Addr) (c : Nat) (w : World) : Calls Try.prog 20 #[.pointer a, .slice ao 0 c] w fun e w' => e = .returned (.int .i64 3) ∧ w = w' := by
  go_enter Try.func20, Try.ntmps20
  go_wp2
  go_ret
  exact ⟨rfl, rfl⟩
theorem dput_nil (ao : Option Addr) (n c : Nat) (w : World) (hn : n ≤ 16384) (h0 : 0 < n) : Calls Try.prog 20 #[.pointer none, .slice ao n c] w fun e w' => e = .returned (.int .i64 6) ∧ w = w' := by
  have h1 : ¬ (16384 : Int) < (n : Int) := by omega
  have h2 : ((n : Int) == 0) = false := beq_eq_false_iff_ne.2 (by omega)
  go_enter Try.func20, Try.ntmps20
  go_wp2
  go_ret
  exact ⟨rfl, rfl⟩
theorem dput_full {B : Nat} {w : World} {X : Bx} (h : BagAt 29 B w X) (hf : X.M.length = 2000) (ao : Option Addr) (n c : Nat) (hn : n ≤ 16384) (h0 : 0 < n) : Calls Try.prog 20 #[.pointer (some ⟨X.p, 0, none⟩), .slice ao n c] w fun e w' => e = .returned (.int .i64 10) ∧ w = w' := by
  have h1 : ¬ (16384 : Int) < (n : Int) := by omega
  have h2 : ((n : Int) == 0) = false := beq_eq_false_iff_ne.2 (by omega)
  have c0 := h.c0
  obtain ⟨ao', cap, hv, _⟩ := row_form h.row
  rw [hv, hf] at c0
  clear h hv hf
  go_enter Try.func20, Try.ntmps20
  go_wp2
  go_ret
  exact ⟨rfl, rfl⟩
set_option maxHeartbeats 4000000 in
theorem dput_ok {B : Nat} {w : World} {X : Bx} (h : BagAt 29 B w X) (hB : B ≤ w.heap.size) (hf : X.M.length < 2000) (a : Addr) (n c : Nat) (l : List Int) (hl : l.length = n) (hr : Rd w (some a) l) (hn : n ≤ 16384) (h0 : 0 < n) :
    Calls Try.prog 20 #[.pointer (some ⟨X.p, 0, none⟩), .slice (some a) n c] w fun e w' => e = .returned (.int .i64 0) ∧ DidB 29 B X (X.M.map Mg.l ++ [l]) w w' := by
  have h1 : ¬ (16384 : Int) < (n : Int) := by omega
  have h2 : ((n : Int) == 0) = false := beq_eq_false_iff_ne.2 (by omega)
  have HC := Lib.hid (twin_any a n c l w.drew (by omega) hl h0 (hr.on (Below.refl _ w).drew (Nat.le_refl _)))
  unfold GivesS at HC
  rw [hl] at HC
  obtain ⟨p, v, M⟩ := X
  have c0 := h.c0
  have c1 := (h.below (Below.refl _ w).drew).c0
  obtain ⟨ao', cap, hv, hnc, hcm⟩ := row_form h.row
  simp only at hv hf c0 c1
  subst hv
  have hpl := h.lt (.inl rfl)
  have H := Lib.hid h
  have HL := Lib.hid hl
  obtain ⟨i0, hi0, hz0, hz1, hz2⟩ := info_parts info30
  have HI := Lib.hid (And.intro hi0 (And.intro hz0 (And.intro hz1 hz2)))
  clear hi0 hz0 hz1 hz2 h hr hl
  generalize hm : M.length = m at *
  have HM := Lib.hid hm
  clear hm
  have hm3 : ¬ 2000 ≤ (m : Int) := by omega
  go_enter Try.func20, Try.ntmps20
  go_upto_region 9 with fail
  go_region_law (first
    | (refine step_append_lies _ (by rfl) (.tmp 27) (.tmp 30) 27 (by rfl) B 30 i0 _ 1 24 Try.underlying27 HI.out.1 HI.out.2.1 HI.out.2.2.1 HI.out.2.2.2 (by rfl) (by decide) (.slice ao' m cap) m (rowM M) (by rfl) (HO3.out.alloc _) ⟨w3.heap.size, 0, none⟩ 1 1 [.slice (some ⟨g3, 0, none⟩) n c3] (by rfl) (by rfl) (news_one w3 _ 30) (one_slice g3 n c3) (by decide) (by unfold maxLen; omega) (by omega) (by simp; have := HB3.out.size; omega) (w3.heap.size + 1) (by simp) ?_; intro g4 cap4 w4 hown4 hgrow4 hgn4 _; have HP := Lib.hid (p_kept (by decide) H.out (HB3.out.trans ((Below.refl _ w3).alloc HB3.out.size _)) hgrow4); have hp1 := HP.out.1; have hp2 := HP.out.2.1; have hp3 := HP.out.2.2; simp only at hp1 hp2 hp3; have H4 := Lib.hid (And.intro hown4 (And.intro hgrow4 hgn4)); clear hown4 hgrow4 hgn4)
    | (go_simp; go_at_call 16; refine HC.out.mono ?_; rintro e' w3 ⟨g3, c3, rfl, ⟨ho3, hr3⟩, hb3⟩; have HB3 : Hid (Below w.heap.size w w3) := Lib.hid ((Below.refl _ w).drew.trans hb3); have HO3 : Hid (w3.ownsRow B 30 1 (.slice ao' m cap) m (rowM M)) := Lib.hid (by have := (H.out.below HB3.out).row; simp only at this; rwa [HM.out] at this); have HR3 := Lib.hid (show Own w3 w.heap.size _ _ from ho3); have q3 : w3.cell? ⟨p, 0, none⟩ = some (.slice ao' m cap) := (H.out.below HB3.out).c0; have z3 := HB3.out.size; have zl : p < w3.heap.size := (H.out.below HB3.out).lt (.inl rfl); clear ho3 hr3 hb3))
  all_goals
    go_wp2_with fail
    go_ret
    refine ⟨rfl, ?_⟩
    obtain ⟨hown4, hgrow4, hgn4⟩ := H4.out
    have hb1 : Below w.heap.size w (w3.alloc (.cells #[.slice (some ⟨g3, 0, none⟩) n c3] 30)) := HB3.out.alloc HB3.out.size _
    have hgl := (World.ownsRow.lt HR3.out g3 rfl)
    have hmg : MgAt w3 ⟨g3, c3, l⟩ := msg_of_own HR3.out HL.out (by omega) (by omega)
    refine put_did (X := ⟨p, .slice ao' m cap, M⟩) (X0 := ⟨p, .slice ao' m cap, M⟩) (m := ⟨g3, c3, l⟩) (by decide) (by decide) H.out hb1 (hmg.on (heap_alloc_old w3 _ hgl.2)) (fun k hk e => by have := H.out.lt hk; have := hgl.1; simp only at e; omega) (Nat.le_trans hB hgl.1) HM.out (by omega) (by show w4.ownsRow B 30 1 _ _ (rowM M ++ [.slice (some ⟨g3, 0, none⟩) l.length c3]); rw [HL.out]; exact hown4) hgrow4 (hgn4.imp id (fun e => by rw [e]; simp)) rfl (Turned.refl _ _) (fun k hk => ?_) (fun k hk => .inl hk)
    rcases hk with hk | hk
    · exact .inl hk
    · exact .inr (by rw [hk]; exact hgl.1)
def dputE (n : Nat) (full : Bool) : Int := if 16384 < n then 2 else if n = 0 then 3 else if full then 10 else 0
end Go.Proofs.Ythjcllgjojldjaa.Bg
