/- commit: Vote, walked. -/
import Derived.Test.YtklalpamcfkngaaA8
namespace Go.Proofs.Ytklalpamcfkngaa.Cm
open Go Go.RowKit
/-- What a vote makes of a run; the answer, the error. -/
def voteM (m : RunM) (j : Nat) (yes : Bool) : RunM × Int × Int :=
  if m.s = 1 then (if yes then ({ m with v := tru m.v j }, if eq4 (tru m.v j) m.n then 3 else 1, 0) else ({ m with s := 4 }, 4, 0))
  else if yes && m.v j then (m, m.s, 0) else (m, 0, 9)
def two (a b : Int) : Value := .tuple #[.int .i64 a, .int .i64 b]
theorem vote_nil (t : TK) (x : Int) (yes : Bool) (w : World) : Calls Try.prog 13 #[.pointer none, .agg #[.int .u8 t.1, .int .u32 t.2.1, .int .u32 t.2.2], .int .u8 x, .bool yes] w fun e w' => e = .returned (two 0 6) ∧ Below w.heap.size w w' := by
  have hb0 := Lib.hid ((Below.refl _ w).alloc (Nat.le_refl _) (.cells #[.int .u8 t.1, .int .u32 t.2.1, .int .u32 t.2.2] 33))
  go_enter Try.func13, Try.ntmps13
  go_wp2_with (go_at_call 36; refine (running_nil t x _).mono ?_; rintro e w1 ⟨rfl, hb⟩; have H1 := Lib.hid (hb0.out.trans (hb.mono hb0.out.size)); clear hb)
  go_ret2
  exact ⟨rfl, H1.out⟩
section
variable {w : World} {B n p a b : Nat} {F : Nat → Prop} {R : TK → Option (Nat × RunM)} {RM : TK → Option RunM} {T : TK → Option Int} {t : TK}
/-- The error of a node that takes no part, or of a run that isn't there. -/
def runE (q : Option RunM) (x : Int) : Int := match q with
  | none => 6
  | some m => if x < 4 ∧ m.n x.toNat = true then 0 else 1
theorem running_err (h : BookAt w B n F p a b R T) (ht : InK t) (x : Int) (hx0 : 0 ≤ x) (he : runE ((R t).map (·.2)) x ≠ 0) :
    Calls Try.prog 36 #[.pointer (some ⟨p, 0, none⟩), .agg #[.int .u8 t.1, .int .u32 t.2.1, .int .u32 t.2.2], .int .u8 x] w fun e w' => e = .returned (.tuple #[.pointer none, .int .i64 (runE ((R t).map (·.2)) x)]) ∧ Below w.heap.size w w' := by
  cases hR : R t with
  | none => exact running_none h ht hR x
  | some r =>
    obtain ⟨g, m⟩ := r
    rw [hR] at he
    simp only [Option.map_some, runE] at he ⊢
    by_cases h4 : x < 4
    · obtain ⟨j, rfl⟩ : ∃ j : Nat, x = j := ⟨x.toNat, by omega⟩
      have hj : j < 4 := by omega
      refine (running_at h ht hR j hj).mono fun e w' hh => ?_
      by_cases hm : m.n j = true
      · simp [h4, hm] at he
      · rw [if_neg hm] at hh
        rw [if_neg (by simpa using fun _ => hm)]
        exact hh
    · rw [if_neg (fun e => h4 e.1)]
      exact running_arg h ht hR x (by omega)
theorem vote_err (h : BookAt w B n F p a b R T) (ht : InK t) (x : Int) (hx0 : 0 ≤ x) (yes : Bool) {er : Int} (hee : runE ((R t).map (·.2)) x = er) (he : er ≠ 0) :
    Calls Try.prog 13 #[.pointer (some ⟨p, 0, none⟩), .agg #[.int .u8 t.1, .int .u32 t.2.1, .int .u32 t.2.2], .int .u8 x, .bool yes] w fun e w' => e = .returned (two 0 er) ∧ Below w.heap.size w w' := by
  have hb0 := Lib.hid ((Below.refl _ w).alloc (Nat.le_refl _) (.cells #[.int .u8 t.1, .int .u32 t.2.1, .int .u32 t.2.2] 33))
  have H1 := Lib.hid (h.below hb0.out)
  have HE := Lib.hid (And.intro hee he)
  have e0 : (er != 0) = true := by simpa using he
  clear h hee he
  go_enter Try.func13, Try.ntmps13
  go_wp2_with (go_at_call 36; refine (running_err H1.out ht x hx0 (by rw [HE.out.1]; exact HE.out.2)).mono ?_; rw [HE.out.1]; rintro e w1 ⟨rfl, hb⟩; have H2 := Lib.hid (hb0.out.trans (hb.mono hb0.out.size)); clear hb)
  go_ret2
  exact ⟨rfl, H2.out⟩
theorem running_in (h : BookAt w B n F p a b R T) (ht : InK t) {g : Nat} {m : RunM} (hR : R t = some (g, m)) (j : Nat) (hj : j < 4) (hm : m.n j = true) :
    Calls Try.prog 36 #[.pointer (some ⟨p, 0, none⟩), .agg #[.int .u8 t.1, .int .u32 t.2.1, .int .u32 t.2.2], .int .u8 j] w fun e w' => e = .returned (.tuple #[.pointer (some ⟨g, 0, none⟩), .int .i64 0]) ∧ Below w.heap.size w w' := by
  refine (running_at h ht hR j hj).mono fun e w' hh => ?_
  rw [if_pos hm] at hh
  exact hh
set_option maxRecDepth 100000 in
set_option maxHeartbeats 4000000 in
theorem vote_yes (h : BookAt w B n F p a b R T) (hRM : ∀ k, InK k → (R k).map (·.2) = RM k) (ht : InK t) {g : Nat} {m : RunM} (hR : R t = some (g, m)) (j : Nat) (hj : j < 4) (hm : m.n j = true) (hs : m.s = 1) :
    Calls Try.prog 13 #[.pointer (some ⟨p, 0, none⟩), .agg #[.int .u8 t.1, .int .u32 t.2.1, .int .u32 t.2.2], .int .u8 j, .bool true] w fun e w' => e = .returned (two (if eq4 (tru m.v j) m.n then 3 else 1) 0) ∧ Did w B n F p (updR RM t { m with v := tru m.v j }) T w' := by
  have hb0 := Lib.hid ((Below.refl _ w).alloc (Nat.le_refl _) (.cells #[.int .u8 t.1, .int .u32 t.2.1, .int .u32 t.2.2] 33))
  have H1 := Lib.hid (h.below hb0.out)
  have HR := Lib.hid hR
  have HRM := Lib.hid hRM
  have HM := Lib.hid hm
  have HS := Lib.hid hs
  have hg := guard75
  have hn := eql75
  obtain ⟨q, hq⟩ : ∃ q, eq4 (tru m.v j) m.n = q := ⟨_, rfl⟩
  rw [hq]
  have HQ := Lib.hid hq
  clear h hR hRM hm hs hq
  have hjj : j = 0 ∨ j = 1 ∨ j = 2 ∨ j = 3 := by omega
  rcases hjj with rfl | rfl | rfl | rfl
  all_goals
    clear hj
    have hq := HQ.out
    simp only [eq4, tru] at hq
    simp at hq
    cases q
    all_goals
      go_enter Try.func13, Try.ntmps13
      go_wp2_with (go_at_call 36; refine (running_in H1.out ht HR.out _ (by decide) HM.out).mono ?_; rintro e w1 ⟨rfl, hb⟩; have H2 := Lib.hid (hb0.out.trans (hb.mono hb0.out.size)); obtain ⟨⟨n0, n1, n2, n3⟩, ⟨v0, v1, v2, v3⟩, _, c12, fz⟩ := run_cells ((H1.out.below hb).each t _ ht HR.out).1; rw [HS.out] at c12; have H3 := Lib.hid (H1.out.below hb); have f4 := fz 4; have f5 := fz 5; have f6 := fz 6; have f7 := fz 7; clear hb fz)
      go_quiet (fail)
      go_wp2
      go_ret2
      refine ⟨by simp [two], did_run H3.out HRM.out ht HR.out H2.out ((turned_set w1 g _ (.bool true)).then (turned_drewN _ _ nq)) ((set_block (H3.out.each t _ ht HR.out).1).trans (by simp [runCells, tru]))⟩
set_option maxHeartbeats 4000000 in
theorem vote_no (h : BookAt w B n F p a b R T) (hRM : ∀ k, InK k → (R k).map (·.2) = RM k) (ht : InK t) {g : Nat} {m : RunM} (hR : R t = some (g, m)) (j : Nat) (hj : j < 4) (hm : m.n j = true) (hs : m.s = 1) :
    Calls Try.prog 13 #[.pointer (some ⟨p, 0, none⟩), .agg #[.int .u8 t.1, .int .u32 t.2.1, .int .u32 t.2.2], .int .u8 j, .bool false] w fun e w' => e = .returned (two 4 0) ∧ Did w B n F p (updR RM t { m with s := 4 }) T w' := by
  have hb0 := Lib.hid ((Below.refl _ w).alloc (Nat.le_refl _) (.cells #[.int .u8 t.1, .int .u32 t.2.1, .int .u32 t.2.2] 33))
  have H1 := Lib.hid (h.below hb0.out)
  have HR := Lib.hid hR
  have HRM := Lib.hid hRM
  have HM := Lib.hid hm
  have HS := Lib.hid hs
  clear h hR hRM hm hs
  go_enter Try.func13, Try.ntmps13
  go_wp2_with (go_at_call 36; refine (running_in H1.out ht HR.out j hj HM.out).mono ?_; rintro e w1 ⟨rfl, hb⟩; have H2 := Lib.hid (hb0.out.trans (hb.mono hb0.out.size)); obtain ⟨⟨n0, n1, n2, n3⟩, ⟨v0, v1, v2, v3⟩, _, c12, fz⟩ := run_cells ((H1.out.below hb).each t _ ht HR.out).1; rw [HS.out] at c12; have H3 := Lib.hid (H1.out.below hb); have f12 := fz 12; clear hb fz)
  go_quiet (fail)
  go_wp2
  go_ret2
  exact ⟨rfl, did_run H3.out HRM.out ht HR.out H2.out ((turned_set w1 g _ (.int .i64 4)).then (turned_drewN _ _ nq)) (set_block (H3.out.each t _ ht HR.out).1)⟩
set_option maxRecDepth 100000 in
set_option maxHeartbeats 4000000 in
theorem vote_late (h : BookAt w B n F p a b R T) (ht : InK t) {g : Nat} {m : RunM} (hR : R t = some (g, m)) (j : Nat) (hj : j < 4) (hm : m.n j = true) (hs : m.s ≠ 1) (yes : Bool) :
    Calls Try.prog 13 #[.pointer (some ⟨p, 0, none⟩), .agg #[.int .u8 t.1, .int .u32 t.2.1, .int .u32 t.2.2], .int .u8 j, .bool yes] w fun e w' => e = .returned (if (yes && m.v j) = true then two m.s 0 else two 0 9) ∧ Below w.heap.size w w' := by
  have hb0 := Lib.hid ((Below.refl _ w).alloc (Nat.le_refl _) (.cells #[.int .u8 t.1, .int .u32 t.2.1, .int .u32 t.2.2] 33))
  have H1 := Lib.hid (h.below hb0.out)
  have HR := Lib.hid hR
  have HM := Lib.hid hm
  have e1 : (m.s == 1) = false := by simpa using hs
  generalize hms : m.s = s at *
  have HS := Lib.hid hms
  clear h hR hm hs hms
  have hjj : j = 0 ∨ j = 1 ∨ j = 2 ∨ j = 3 := by omega
  rcases hjj with rfl | rfl | rfl | rfl
  all_goals
    clear hj
    first
      | (obtain ⟨q, hq⟩ : ∃ q, m.v 0 = q := ⟨_, rfl⟩; rw [hq])
      | (obtain ⟨q, hq⟩ : ∃ q, m.v 1 = q := ⟨_, rfl⟩; rw [hq])
      | (obtain ⟨q, hq⟩ : ∃ q, m.v 2 = q := ⟨_, rfl⟩; rw [hq])
      | (obtain ⟨q, hq⟩ : ∃ q, m.v 3 = q := ⟨_, rfl⟩; rw [hq])
    have HQ := Lib.hid hq
    clear hq
    cases yes
    · go_enter Try.func13, Try.ntmps13
      go_wp2_with (go_at_call 36; refine (running_in H1.out ht HR.out _ (by decide) HM.out).mono ?_; rintro e w1 ⟨rfl, hb⟩; have H2 := Lib.hid (hb0.out.trans (hb.mono hb0.out.size)); obtain ⟨⟨n0, n1, n2, n3⟩, ⟨v0, v1, v2, v3⟩, _, c12, fz⟩ := run_cells ((H1.out.below hb).each t _ ht HR.out).1; rw [HS.out] at c12; clear hb fz)
      go_ret2
      exact ⟨rfl, H2.out⟩
    · cases q
      · go_enter Try.func13, Try.ntmps13
        go_wp2_with (go_at_call 36; refine (running_in H1.out ht HR.out _ (by decide) HM.out).mono ?_; rintro e w1 ⟨rfl, hb⟩; have H2 := Lib.hid (hb0.out.trans (hb.mono hb0.out.size)); obtain ⟨⟨n0, n1, n2, n3⟩, ⟨v0, v1, v2, v3⟩, _, c12, fz⟩ := run_cells ((H1.out.below hb).each t _ ht HR.out).1; rw [HS.out] at c12; first | rw [HQ.out] at v0 | rw [HQ.out] at v1 | rw [HQ.out] at v2 | rw [HQ.out] at v3; clear hb fz)
        go_ret2
        exact ⟨rfl, H2.out⟩
      · go_enter Try.func13, Try.ntmps13
        go_wp2_with (go_at_call 36; refine (running_in H1.out ht HR.out _ (by decide) HM.out).mono ?_; rintro e w1 ⟨rfl, hb⟩; have H2 := Lib.hid (hb0.out.trans (hb.mono hb0.out.size)); obtain ⟨⟨n0, n1, n2, n3⟩, ⟨v0, v1, v2, v3⟩, _, c12, fz⟩ := run_cells ((H1.out.below hb).each t _ ht HR.out).1; rw [HS.out] at c12; first | rw [HQ.out] at v0 | rw [HQ.out] at v1 | rw [HQ.out] at v2 | rw [HQ.out] at v3; clear hb fz)
        go_quiet (fail)
        go_wp2
        go_ret2
        exact ⟨rfl, H2.out.trans ((drewN_below w1 nq).mono H2.out.size)⟩
end
end Go.Proofs.Ytklalpamcfkngaa.Cm
