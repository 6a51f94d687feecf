/- commit: sets of nodes held against each other; running, Commit, walked. -/
import Derived.Test.YtklalpamcfkngaaA6
namespace Go.Proofs.Ytklalpamcfkngaa.Cm
open Go Go.RowKit
theorem und75 : Try.prog.underlying 75 = some (.array 4 4) := by kernel_rfl
theorem guard75 : Try.prog.eqGuardType Try.prog.depth 75 = false := by kernel_rfl
theorem cells4 : Try.prog.cellsOf 4 = 1 := by kernel_rfl
/-- Four letters as a set of nodes. -/
def set4 (f : Nat → Bool) : Array Value := #[.bool (f 0), .bool (f 1), .bool (f 2), .bool (f 3)]
def eq4 (f g : Nat → Bool) : Bool := f 0 == g 0 && (f 1 == g 1 && (f 2 == g 2 && f 3 == g 3))
theorem eqIn75 (f g : Nat → Bool) (w : World) : (Op.equalIn 10000 75 (.agg (set4 f)) (.agg (set4 g))).run Try.prog w = .ok (eq4 f g) w := by
  obtain ⟨i, hi⟩ := info_of_underlying Try.underlying4
  rw [show (10000 : Nat) = 9999 + 1 from rfl, run_equalIn_array w 9999 _ _ und75 hi, cells4, show List.range 4 = [0, 1, 2, 3] from rfl]
  have p (f : Nat → Bool) (i : Nat) (hi : i < 4) : (part 4 (set4 f) (i * 1)).run Try.prog w = .ok (.bool (f i)) w := by
    rw [run_part_plain w (v := .bool (f i)) (by kernel_rfl) ?_]
    match i, hi with
    | 0, _ => rfl
    | 1, _ => rfl
    | 2, _ => rfl
    | 3, _ => rfl
  have e (x y : Bool) : (Op.equalIn 9999 4 (.bool x) (.bool y)).run Try.prog w = .ok (x == y) w := by
    rw [show (9999 : Nat) = 9998 + 1 from rfl, run_equalIn_bool w 9998 4 x y Try.underlying4]
  simp only [Op.eqItems, Sem.run_bind, p f 0 (by omega), p g 0 (by omega), e, Result.andThen_ok]
  unfold eq4
  cases h0 : (f 0 == g 0)
  · simp
  · cases h1 : (f 1 == g 1)
    · simp [p f 1 (by omega), p g 1 (by omega), e, h1]
    · cases h2 : (f 2 == g 2)
      · simp [p f 1 (by omega), p g 1 (by omega), e, h1, p f 2 (by omega), p g 2 (by omega), h2]
      · cases h3 : (f 3 == g 3) <;> simp [p f 1 (by omega), p g 1 (by omega), e, h1, p f 2 (by omega), p g 2 (by omega), h2, p f 3 (by omega), p g 3 (by omega), h3]
theorem eql75 (a b c d a' b' c' d' : Bool) (w : World) : (binOp .eql 75 (.agg #[.bool a, .bool b, .bool c, .bool d]) (.agg #[.bool a', .bool b', .bool c', .bool d'])).run Try.prog w = .ok (.bool (a == a' && (b == b' && (c == c' && d == d')))) w := by
  have h := eqIn75 (fun i => if i = 0 then a else if i = 1 then b else if i = 2 then c else d) (fun i => if i = 0 then a' else if i = 1 then b' else if i = 2 then c' else d') w
  simp only [set4, eq4] at h
  rw [run_eql_struct]
  simp at h
  simp [h]
theorem neq75 (a b c d a' b' c' d' : Bool) (w : World) : (binOp .neq 75 (.agg #[.bool a, .bool b, .bool c, .bool d]) (.agg #[.bool a', .bool b', .bool c', .bool d'])).run Try.prog w = .ok (.bool (!(a == a' && (b == b' && (c == c' && d == d'))))) w := by
  have h := eqIn75 (fun i => if i = 0 then a else if i = 1 then b else if i = 2 then c else d) (fun i => if i = 0 then a' else if i = 1 then b' else if i = 2 then c' else d') w
  simp only [set4, eq4] at h
  rw [run_neq_struct]
  simp at h
  simp [h]
def tru (f : Nat → Bool) (j : Nat) : Nat → Bool := fun i => if i = j then true else f i
section
variable {w : World} {B n p a b : Nat} {F : Nat → Prop} {R : TK → Option (Nat × RunM)} {T : TK → Option Int} {t : TK}
theorem running_none (h : BookAt w B n F p a b R T) (ht : InK t) (hR : R t = none) (x : Int) :
    Calls Try.prog 36 #[.pointer (some ⟨p, 0, none⟩), .agg #[.int .u8 t.1, .int .u32 t.2.1, .int .u32 t.2.2], .int .u8 x] w fun e w' => e = .returned (.tuple #[.pointer none, .int .i64 6]) ∧ Below w.heap.size w w' := by
  have hb0 := Lib.hid ((Below.refl _ w).alloc (Nat.le_refl _) (.cells #[.int .u8 t.1, .int .u32 t.2.1, .int .u32 t.2.2] 33))
  have H1 := Lib.hid (h.below hb0.out)
  have HR := Lib.hid hR
  clear h hR
  go_enter Try.func36, Try.ntmps36
  go_wp2_with (go_at_call 34; refine (find_none H1.out ht HR.out).mono ?_; rintro e w1 ⟨rfl, hb⟩; have H2 := Lib.hid (hb0.out.trans (hb.mono hb0.out.size)); clear hb)
  go_ret2
  exact ⟨rfl, H2.out⟩
theorem running_arg (h : BookAt w B n F p a b R T) (ht : InK t) {g : Nat} {m : RunM} (hR : R t = some (g, m)) (x : Int) (hx : 4 ≤ x) :
    Calls Try.prog 36 #[.pointer (some ⟨p, 0, none⟩), .agg #[.int .u8 t.1, .int .u32 t.2.1, .int .u32 t.2.2], .int .u8 x] w fun e w' => e = .returned (.tuple #[.pointer none, .int .i64 1]) ∧ Below w.heap.size w w' := by
  have hb0 := Lib.hid ((Below.refl _ w).alloc (Nat.le_refl _) (.cells #[.int .u8 t.1, .int .u32 t.2.1, .int .u32 t.2.2] 33))
  have H1 := Lib.hid (h.below hb0.out)
  have HR := Lib.hid hR
  clear h hR
  go_enter Try.func36, Try.ntmps36
  go_wp2_with (go_at_call 34; refine (find_some H1.out ht HR.out).mono ?_; rintro e w1 ⟨rfl, hb⟩; have H2 := Lib.hid (hb0.out.trans (hb.mono hb0.out.size)); clear hb)
  go_ret2
  exact ⟨rfl, H2.out⟩
theorem running_at (h : BookAt w B n F p a b R T) (ht : InK t) {g : Nat} {m : RunM} (hR : R t = some (g, m)) (j : Nat) (hj : j < 4) :
    Calls Try.prog 36 #[.pointer (some ⟨p, 0, none⟩), .agg #[.int .u8 t.1, .int .u32 t.2.1, .int .u32 t.2.2], .int .u8 j] w fun e w' => e = .returned (if m.n j then .tuple #[.pointer (some ⟨g, 0, none⟩), .int .i64 0] else .tuple #[.pointer none, .int .i64 1]) ∧ Below w.heap.size w w' := by
  have hb0 := Lib.hid ((Below.refl _ w).alloc (Nat.le_refl _) (.cells #[.int .u8 t.1, .int .u32 t.2.1, .int .u32 t.2.2] 33))
  have H1 := Lib.hid (h.below hb0.out)
  have HR := Lib.hid hR
  clear h hR
  have : j = 0 ∨ j = 1 ∨ j = 2 ∨ j = 3 := by omega
  rcases this with rfl | rfl | rfl | rfl
  all_goals
    clear hj
    go_enter Try.func36, Try.ntmps36
    go_wp2_with (go_at_call 34; refine (find_some H1.out ht HR.out).mono ?_; rintro e w1 ⟨rfl, hb⟩; have H2 := Lib.hid (hb0.out.trans (hb.mono hb0.out.size)); obtain ⟨⟨c0, c1, c2, c3⟩, _, _, _, _⟩ := run_cells ((H1.out.below hb).each t _ ht HR.out).1; clear hb)
    all_goals
      go_ret2
      rename_i hh
      exact ⟨by simp_all, H2.out⟩
end
end Go.Proofs.Ytklalpamcfkngaa.Cm
