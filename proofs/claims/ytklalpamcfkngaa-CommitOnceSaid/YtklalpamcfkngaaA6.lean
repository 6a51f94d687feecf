/- commit: Settle, running, Commit, walked. -/
import Derived.Test.YtklalpamcfkngaaA5
namespace Go.Proofs.Ytklalpamcfkngaa.Cm
open Go Go.RowKit
section
variable {w w' : World} {B n m p a b : Nat} {F : Nat → Prop} {R : TK → Option (Nat × RunM)} {RM : TK → Option RunM} {T : TK → Option Int} {t : TK}
theorem BookAt.mono (h : BookAt w B n F p a b R T) (hn : n ≤ m) : BookAt w B m F p a b R T :=
  ⟨h.cell, h.runs.mono hn, h.takes.mono hn, h.ab, h.each, h.inj, h.base, h.fp, h.fa, h.fb, h.hi, h.low⟩
theorem Bk.mono (h : Bk w B n F p RM T) (hn : n ≤ m) : Bk w B m F p RM T := by
  obtain ⟨a, b, R, h1, h2⟩ := h
  exact ⟨a, b, R, h1.mono hn, h2⟩
theorem Did.mono (h : Did w B n F p RM T w') (hn : n ≤ m) : Did w B m F p RM T w' := by
  obtain ⟨F', h1, h2⟩ := h
  exact ⟨F', h1.mono hn, h2⟩
end
def settleE (T : TK → Option Int) (t : TK) (s : Int) : Int := if s ≠ 3 ∧ s ≠ 4 then 1 else if stT (T t) = 0 then 6 else if stT (T t) = 2 ∨ stT (T t) = s then 0 else 9
def settleT (T : TK → Option Int) (t : TK) (s : Int) : TK → Option Int := if settleE T t s = 0 then updT T t s else T
section
variable {w : World} {B n p : Nat} {F : Nat → Prop} {RM : TK → Option RunM} {T : TK → Option Int} {t : TK}
theorem settle_arg (q : Option Addr) (t : TK) (s : Int) (w : World) (h3 : s ≠ 3) (h4 : s ≠ 4) :
    Calls Try.prog 26 #[.pointer q, .agg #[.int .u8 t.1, .int .u32 t.2.1, .int .u32 t.2.2], .int .i64 s] w fun e w' => e = .returned (.int .i64 1) ∧ Below w.heap.size w w' := by
  have e3 : (s != 3) = true := by simpa using h3
  have e4 : (s != 4) = true := by simpa using h4
  go_enter Try.func26, Try.ntmps26
  go_wp2
  go_ret
  exact ⟨rfl, (Below.refl _ w).alloc (Nat.le_refl _) _⟩
theorem settle_nil (t : TK) (s : Int) (w : World) (h : s = 3 ∨ s = 4) :
    Calls Try.prog 26 #[.pointer none, .agg #[.int .u8 t.1, .int .u32 t.2.1, .int .u32 t.2.2], .int .i64 s] w fun e w' => e = .returned (.int .i64 6) ∧ Below w.heap.size w w' := by
  have hb0 := Lib.hid ((Below.refl _ w).alloc (Nat.le_refl _) (.cells #[.int .u8 t.1, .int .u32 t.2.1, .int .u32 t.2.2] 33))
  rcases h with rfl | rfl
  · go_enter Try.func26, Try.ntmps26
    go_wp2_with (go_at_call 11; refine (stands_nil t _).mono ?_; rintro e w1 ⟨rfl, hb⟩; have H1 := Lib.hid (hb0.out.trans (hb.mono hb0.out.size)); clear hb)
    go_ret
    exact ⟨rfl, H1.out⟩
  · go_enter Try.func26, Try.ntmps26
    go_wp2_with (go_at_call 11; refine (stands_nil t _).mono ?_; rintro e w1 ⟨rfl, hb⟩; have H1 := Lib.hid (hb0.out.trans (hb.mono hb0.out.size)); clear hb)
    go_ret
    exact ⟨rfl, H1.out⟩
theorem settle_no (h : Bk w B n F p RM T) (ht : InK t) {s q : Int} (hs : s = 3 ∨ s = 4) (hq : stT (T t) = q) (h2 : q ≠ 2) (h3 : q ≠ s) :
    Calls Try.prog 26 #[.pointer (some ⟨p, 0, none⟩), .agg #[.int .u8 t.1, .int .u32 t.2.1, .int .u32 t.2.2], .int .i64 s] w fun e w' => e = .returned (.int .i64 (if q = 0 then 6 else 9)) ∧ Below w.heap.size w w' := by
  have hb0 : Below w.heap.size w (w.alloc (.cells #[.int .u8 t.1, .int .u32 t.2.1, .int .u32 t.2.2] 33)) := (Below.refl _ w).alloc (Nat.le_refl _) _
  have H1 := Lib.hid (h.below hb0)
  have HB := Lib.hid hb0
  have HQ := Lib.hid hq
  have e2 : (q == 2) = false := by simpa using h2
  have e3 : (q == s) = false := by simpa using h3
  clear h hb0 hq h2 h3
  by_cases h0 : q = 0
  · have e0 : (q == 0) = true := by simpa using h0
    rw [if_pos h0]
    clear h0
    rcases hs with rfl | rfl
    · go_enter Try.func26, Try.ntmps26
      go_wp2_with (go_at_call 11; refine (stands_any H1.out ht).mono ?_; rw [HQ.out]; rintro e w1 ⟨rfl, hb⟩; have H2 := Lib.hid (HB.out.trans (hb.mono HB.out.size)); clear hb)
      go_ret
      exact ⟨rfl, H2.out⟩
    · go_enter Try.func26, Try.ntmps26
      go_wp2_with (go_at_call 11; refine (stands_any H1.out ht).mono ?_; rw [HQ.out]; rintro e w1 ⟨rfl, hb⟩; have H2 := Lib.hid (HB.out.trans (hb.mono HB.out.size)); clear hb)
      go_ret
      exact ⟨rfl, H2.out⟩
  · have e0 : (q == 0) = false := by simpa using h0
    rw [if_neg h0]
    clear h0
    rcases hs with rfl | rfl
    · go_enter Try.func26, Try.ntmps26
      go_wp2_with (go_at_call 11; refine (stands_any H1.out ht).mono ?_; rw [HQ.out]; rintro e w1 ⟨rfl, hb⟩; have H2 := Lib.hid (HB.out.trans (hb.mono HB.out.size)); clear hb)
      go_ret
      exact ⟨rfl, H2.out⟩
    · go_enter Try.func26, Try.ntmps26
      go_wp2_with (go_at_call 11; refine (stands_any H1.out ht).mono ?_; rw [HQ.out]; rintro e w1 ⟨rfl, hb⟩; have H2 := Lib.hid (HB.out.trans (hb.mono HB.out.size)); clear hb)
      go_ret
      exact ⟨rfl, H2.out⟩
set_option maxRecDepth 100000 in
theorem settle_yes (h : Bk w B n F p RM T) (ht : InK t) {s q : Int} (hs : s = 3 ∨ s = 4) (hq : stT (T t) = q) (h2 : q = 2 ∨ q = s) (hn : n ≤ 1000000) :
    Calls Try.prog 26 #[.pointer (some ⟨p, 0, none⟩), .agg #[.int .u8 t.1, .int .u32 t.2.1, .int .u32 t.2.2], .int .i64 s] w fun e w' => e = .returned (.int .i64 0) ∧ Did w B (n + 1) F p RM (updT T t s) w' := by
  have hb0 : Below w.heap.size w (w.alloc (.cells #[.int .u8 t.1, .int .u32 t.2.1, .int .u32 t.2.2] 33)) := (Below.refl _ w).alloc (Nat.le_refl _) _
  have H1 := Lib.hid (h.below hb0)
  have HB := Lib.hid hb0
  have HQ := Lib.hid hq
  clear h hb0 hq
  have go : ∀ w1 : World, Below w.heap.size w w1 → Bk w1 B n F p RM T → w1.cell? ⟨w.heap.size, 0, none⟩ = some (.int .u8 t.1) → True := fun _ _ _ _ => trivial
  clear go
  rcases hs with rfl | rfl <;> rcases h2 with rfl | rfl
  all_goals
    go_enter Try.func26, Try.ntmps26
    go_wp2_with (go_at_call 11; refine (stands_any H1.out ht).mono ?_; rw [HQ.out]; rintro e w1 ⟨rfl, hb⟩; have H2 := Lib.hid (HB.out.trans (hb.mono HB.out.size)); have H3 := Lib.hid (H1.out.below hb); obtain ⟨hc, hf⟩ : (∀ b o, b < w.heap.size + 1 → w1.cell? ⟨b, o, none⟩ = (w.alloc (.cells #[.int .u8 t.1, .int .u32 t.2.1, .int .u32 t.2.2] 33)).cell? ⟨b, o, none⟩) ∧ True := ⟨fun b o h => hb.cell (p := ⟨b, o, none⟩) (by simpa using h), trivial⟩; have t0 := (hc w.heap.size 0 (by omega)).trans (World.cell?_alloc_new w _ 33 0); have t1 := (hc w.heap.size 1 (by omega)).trans (World.cell?_alloc_new w _ 33 1); have t2 := (hc w.heap.size 2 (by omega)).trans (World.cell?_alloc_new w _ 33 2); clear hb hc hf)
    obtain ⟨a, b, R, h, hRM⟩ := H3.out
    obtain ⟨D, hD, hD2⟩ := (h.on (turned_drew (fun _ => False) _) (fun _ _ => id)).takes
    obtain ⟨cp0, cp1⟩ := h.cells
    have HX := Lib.hid (And.intro (h.on (turned_drew (fun _ => False) _) (fun _ _ => id)) (And.intro hD hD2))
    have HF := Lib.hid h.fb
    have HRM := Lib.hid hRM
    clear h hRM hD hD2
    refine still_tail 6 (by kernel_rfl) (by kernel_rfl) ?_
    simp only [List.take_succ_cons, List.take_zero, List.drop_succ_cons, List.drop_zero]
    repeat still_step
    refine wpStill_nil ?_
    refine wpList_mapUpdate_own _ rfl _ _ _ 52 rfl 33 3 law33 Try.underlying52 tok b n D rfl HX.out.2.1 (by unfold maxLen; omega) _ _ _ rfl rfl (key33' ht) _ [] rfl ?_
    intro w2 hown1 hgrow1
    have hMV := MapV.stored ht HX.out.2.1 HX.out.2.2 hown1
    have H4 := Lib.hid (show Did w B (n + 1) F p RM (updT T t _) w2 from
      ⟨F, ⟨a, b, R, book_takes HX.out.1 hMV hgrow1, HRM.out⟩, fun _ h => .inl h, (below_any (G := F) H2.out.drew).then (.of_grown hgrow1 (fun k e => by cases e; exact HF.out))⟩)
    clear hown1 hgrow1 hMV
    go_wp2
    go_ret
    exact ⟨rfl, H4.out⟩
theorem settle_any (h : Bk w B n F p RM T) (ht : InK t) (s : Int) (hn : n ≤ 1000000) :
    Calls Try.prog 26 #[.pointer (some ⟨p, 0, none⟩), .agg #[.int .u8 t.1, .int .u32 t.2.1, .int .u32 t.2.2], .int .i64 s] w fun e w' => e = .returned (.int .i64 (settleE T t s)) ∧ Did w B (n + 1) F p RM (settleT T t s) w' := by
  unfold settleT settleE
  by_cases h1 : s ≠ 3 ∧ s ≠ 4
  · rw [if_pos h1, if_neg (by decide)]
    exact (settle_arg _ t s w h1.1 h1.2).mono fun e w' hh => ⟨hh.1, (Did.same h hh.2).mono (Nat.le_succ n)⟩
  · have hs : s = 3 ∨ s = 4 := by omega
    rw [if_neg h1]
    by_cases h2 : stT (T t) = 2 ∨ stT (T t) = s
    · rw [if_neg (by omega), if_pos h2, if_pos rfl]
      exact settle_yes h ht hs rfl h2 hn
    · refine (settle_no h ht hs rfl (by omega) (by omega)).mono fun e w' hh => ?_
      rw [hh.1]
      by_cases h0 : stT (T t) = 0
      · rw [if_pos h0, if_pos h0, if_neg (by decide)]
        exact ⟨rfl, (Did.same h hh.2).mono (Nat.le_succ n)⟩
      · rw [if_neg h0, if_neg h0, if_neg h2, if_neg (by decide)]
        exact ⟨rfl, (Did.same h hh.2).mono (Nat.le_succ n)⟩
end
end Go.Proofs.Ytklalpamcfkngaa.Cm
