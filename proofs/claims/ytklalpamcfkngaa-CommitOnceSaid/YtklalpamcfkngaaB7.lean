/- commit: what each call makes of a book by what it holds. -/
import Derived.Test.YtklalpamcfkngaaB6
namespace Go.Proofs.Ytklalpamcfkngaa.Cm
open Go Go.RowKit
def beginE (RM : TK → Option RunM) (t : TK) (L : List Int) : Int := if listE L ≠ 0 then listE L else if (RM t).isSome = true then 7 else 0
def beginS (RM : TK → Option RunM) (t : TK) (L : List Int) : TK → Option RunM := if beginE RM t L = 0 then updR RM t (newRun L) else RM
def voteA (q : Option RunM) (x : Int) (yes : Bool) : Int × Int := match q with
  | none => (0, 6)
  | some m => if x < 4 ∧ m.n x.toNat = true then (voteM m x.toNat yes).2 else (0, 1)
def voteS (RM : TK → Option RunM) (t : TK) (x : Int) (yes : Bool) : TK → Option RunM := match RM t with
  | none => RM
  | some m => if x < 4 ∧ m.n x.toNat = true then updR RM t (voteM m x.toNat yes).1 else RM
def commitE : Option RunM → Int
  | none => 6
  | some m => if m.s = 4 ∨ eq4 m.v m.n = false then 9 else 0
def commitS (RM : TK → Option RunM) (t : TK) : TK → Option RunM := match RM t with
  | none => RM
  | some m => if m.s = 4 ∨ eq4 m.v m.n = false then RM else updR RM t { m with s := 3 }
def applA (q : Option RunM) (x : Int) : Bool × Int := match q with
  | none => (false, 6)
  | some m => if x < 4 ∧ m.n x.toNat = true then (if m.s = 3 then (eq4 (tru m.a x.toNat) m.n, 0) else (false, 9)) else (false, 1)
def applS (RM : TK → Option RunM) (t : TK) (x : Int) : TK → Option RunM := match RM t with
  | none => RM
  | some m => if (x < 4 ∧ m.n x.toNat = true) ∧ m.s = 3 then updR RM t { m with a := tru m.a x.toNat } else RM
def takeE (T : TK → Option Int) (t : TK) : Int := if stT (T t) = 0 then 0 else 7
def takeS (T : TK → Option Int) (t : TK) : TK → Option Int := if stT (T t) = 0 then updT T t 2 else T
theorem updR_same {RM : TK → Option RunM} {t : TK} {m : RunM} (h : RM t = some m) : updR RM t m = RM := by
  funext k
  unfold updR
  by_cases e : k = t
  · subst e; simp [h]
  · simp [e]
section
variable {w : World} {B n p : Nat} {F : Nat → Prop} {RM : TK → Option RunM} {T : TK → Option Int} {t : TK}
theorem begin_any (ao : Option Addr) (l c : Nat) (L : List Int) (h : Bk w B n F p RM T) (ht : InK t) (hL : L.length = l) (hr : Rd w ao L) (hi : ∀ x ∈ L, 0 ≤ x ∧ x ≤ 255) (hnn : n ≤ 1000000) :
    Calls Try.prog 12 #[.pointer (some ⟨p, 0, none⟩), .agg #[.int .u8 t.1, .int .u32 t.2.1, .int .u32 t.2.2], .slice ao l c] w fun e w' => e = .returned (.int .i64 (beginE RM t L)) ∧ Did w B (n + 1) F p (beginS RM t L) T w' := by
  unfold beginS beginE
  by_cases h0 : listE L = 0
  · rw [if_neg (by omega)]
    obtain ⟨a, b, R, hB, hRM⟩ := id h
    rw [← hRM t ht]
    cases hR : R t with
    | none =>
      rw [Option.map_none, if_neg (by simp), if_pos rfl]
      exact begin_new ao l c L hB hRM ht hR hL hr hi h0 hnn
    | some r =>
      obtain ⟨g, m⟩ := r
      rw [Option.map_some, if_pos (show (some (g, m).2).isSome = true from rfl), if_neg (by decide)]
      exact (begin_again ao l c L hB ht hR hL hr hi h0).mono fun e w' hh => ⟨hh.1, (Did.same h hh.2).mono (Nat.le_succ n)⟩
  · rw [if_pos h0, if_neg h0]
    exact (begin_bad _ t ao l c L w hL hr hi rfl h0).mono fun e w' hh => ⟨hh.1, (Did.same h hh.2).mono (Nat.le_succ n)⟩
theorem vote_any (h : Bk w B n F p RM T) (ht : InK t) (x : Int) (hx : 0 ≤ x) (yes : Bool) :
    Calls Try.prog 13 #[.pointer (some ⟨p, 0, none⟩), .agg #[.int .u8 t.1, .int .u32 t.2.1, .int .u32 t.2.2], .int .u8 x, .bool yes] w fun e w' => e = .returned (two (voteA (RM t) x yes).1 (voteA (RM t) x yes).2) ∧ Did w B n F p (voteS RM t x yes) T w' := by
  obtain ⟨a, b, R, hB, hRM⟩ := id h
  have hRt := hRM t ht
  unfold voteS
  cases hR : R t with
  | none =>
    rw [hR, Option.map_none] at hRt
    rw [← hRt]
    exact (vote_err (er := 6) hB ht x hx yes (by rw [hR]; rfl) (by decide)).mono fun e w' hh => ⟨hh.1, Did.same h hh.2⟩
  | some r =>
    obtain ⟨g, m⟩ := r
    rw [hR, Option.map_some] at hRt
    rw [← hRt]
    simp only [voteA]
    by_cases hin : x < 4 ∧ m.n x.toNat = true
    · rw [if_pos hin, if_pos hin]
      obtain ⟨j, rfl⟩ : ∃ j : Nat, x = j := ⟨x.toNat, by omega⟩
      have hj : j < 4 := by omega
      have hm : m.n j = true := by simpa using hin.2
      simp only [Int.toNat_natCast]
      unfold voteM
      by_cases hs : m.s = 1
      · simp only [if_pos hs]
        cases yes
        · exact vote_no hB hRM ht hR j hj hm hs
        · exact vote_yes hB hRM ht hR j hj hm hs
      · simp only [if_neg hs]
        by_cases hy : (yes && m.v j) = true
        · simp only [if_pos hy]
          refine (vote_late hB ht hR j hj hm hs yes).mono fun e w' hh => ?_
          rw [if_pos hy] at hh
          rw [updR_same hRt.symm]
          exact ⟨hh.1, Did.same h hh.2⟩
        · simp only [if_neg hy]
          refine (vote_late hB ht hR j hj hm hs yes).mono fun e w' hh => ?_
          rw [if_neg hy] at hh
          rw [updR_same hRt.symm]
          exact ⟨hh.1, Did.same h hh.2⟩
    · rw [if_neg hin, if_neg hin]
      exact (vote_err (er := 1) hB ht x hx yes (by rw [hR]; simp only [Option.map_some, runE]; rw [if_neg hin]) (by decide)).mono fun e w' hh => ⟨hh.1, Did.same h hh.2⟩
theorem commit_any (h : Bk w B n F p RM T) (ht : InK t) :
    Calls Try.prog 14 #[.pointer (some ⟨p, 0, none⟩), .agg #[.int .u8 t.1, .int .u32 t.2.1, .int .u32 t.2.2]] w fun e w' => e = .returned (.int .i64 (commitE (RM t))) ∧ Did w B n F p (commitS RM t) T w' := by
  obtain ⟨a, b, R, hB, hRM⟩ := id h
  have hRt := hRM t ht
  unfold commitS
  cases hR : R t with
  | none =>
    rw [hR, Option.map_none] at hRt
    rw [← hRt]
    exact (commit_none hB ht hR).mono fun e w' hh => ⟨hh.1, Did.same h hh.2⟩
  | some r =>
    obtain ⟨g, m⟩ := r
    rw [hR, Option.map_some] at hRt
    rw [← hRt]
    simp only [commitE]
    by_cases hno : m.s = 4 ∨ eq4 m.v m.n = false
    · rw [if_pos hno, if_pos hno]
      exact (commit_no hB ht hR hno).mono fun e w' hh => ⟨hh.1, Did.same h hh.2⟩
    · rw [if_neg hno, if_neg hno]
      exact commit_yes hB hRM ht hR (fun e => hno (.inl e)) (by cases hq : eq4 m.v m.n; (exact absurd (.inr hq) hno); rfl)
theorem appl_any (h : Bk w B n F p RM T) (ht : InK t) (x : Int) (hx : 0 ≤ x) :
    Calls Try.prog 22 #[.pointer (some ⟨p, 0, none⟩), .agg #[.int .u8 t.1, .int .u32 t.2.1, .int .u32 t.2.2], .int .u8 x] w fun e w' => e = .returned (bi (applA (RM t) x).1 (applA (RM t) x).2) ∧ Did w B n F p (applS RM t x) T w' := by
  obtain ⟨a, b, R, hB, hRM⟩ := id h
  have hRt := hRM t ht
  unfold applS
  cases hR : R t with
  | none =>
    rw [hR, Option.map_none] at hRt
    rw [← hRt]
    exact (applied_err (er := 6) hB ht x hx (by rw [hR]; rfl) (by decide)).mono fun e w' hh => ⟨hh.1, Did.same h hh.2⟩
  | some r =>
    obtain ⟨g, m⟩ := r
    rw [hR, Option.map_some] at hRt
    rw [← hRt]
    simp only [applA]
    by_cases hin : x < 4 ∧ m.n x.toNat = true
    · rw [if_pos hin]
      obtain ⟨j, rfl⟩ : ∃ j : Nat, x = j := ⟨x.toNat, by omega⟩
      have hj : j < 4 := by omega
      have hm : m.n j = true := by simpa using hin.2
      by_cases hs : m.s = 3
      · rw [if_pos hs, if_pos ⟨hin, hs⟩]
        simp only [Int.toNat_natCast]
        exact applied_yes hB hRM ht hR j hj hm hs
      · rw [if_neg hs, if_neg (fun e => hs e.2)]
        exact (applied_no hB ht hR j hj hm hs).mono fun e w' hh => ⟨hh.1, Did.same h hh.2⟩
    · rw [if_neg hin, if_neg (fun e => hin e.1)]
      exact (applied_err (er := 1) hB ht x hx (by rw [hR]; simp only [Option.map_some, runE]; rw [if_neg hin]) (by decide)).mono fun e w' hh => ⟨hh.1, Did.same h hh.2⟩
theorem take_any (h : Bk w B n F p RM T) (ht : InK t) (hn : n ≤ 1000000) :
    Calls Try.prog 24 #[.pointer (some ⟨p, 0, none⟩), .agg #[.int .u8 t.1, .int .u32 t.2.1, .int .u32 t.2.2]] w fun e w' => e = .returned (.int .i64 (takeE T t)) ∧ Did w B (n + 1) F p RM (takeS T t) w' := by
  unfold takeE takeS
  by_cases h0 : stT (T t) = 0
  · rw [if_pos h0, if_pos h0]
    exact take_new h ht h0 hn
  · rw [if_neg h0, if_neg h0]
    exact (take_again h ht h0).mono fun e w' hh => ⟨hh.1, (Did.same h hh.2).mono (Nat.le_succ n)⟩
end
end Go.Proofs.Ytklalpamcfkngaa.Cm
