/- index: structs of two numbers held against each other. -/
import Derived.Test.YthjcohaldjfniaaK1
import Derived.Laws.StructEq
namespace Go.Proofs.Ythjcohaldjfniaa.Ix
open Go Go.RowKit
theorem und42 : Try.prog.underlying 42 = some (.struct (Try.prog.fieldsOf 42)) := by kernel_rfl
theorem stood42 : Try.prog.stoodInHeld 42 = false := by kernel_rfl
theorem guard42 : Try.prog.eqGuardType Try.prog.depth 42 = false := by kernel_rfl
theorem fields42 : (Try.prog.fieldsOf 42).toList.map (fun f => (f.name == "_", f.type, f.offset)) = [(false, 23, 0), (false, 23, 1)] := by kernel_rfl
theorem flat23 : Try.prog.cellsOf 23 = 1 := by kernel_rfl
theorem run_neq42 (a b c d : Int) (w : World) : (binOp .neq 42 (.agg #[.int .u64 a, .int .u64 b]) (.agg #[.int .u64 c, .int .u64 d])).run Try.prog w = .ok (.bool (!(a == c && b == d))) w := by
  rw [run_neq_struct, show (10000 : Nat) = 9999 + 1 from rfl, run_equalIn_agg w 9999 42 _ _ und42 stood42]
  obtain ⟨f, g, h, h1, h2⟩ : ∃ f g, (Try.prog.fieldsOf 42).toList = [f, g] ∧ (f.name == "_", f.type, f.offset) = (false, 23, 0) ∧ (g.name == "_", g.type, g.offset) = (false, 23, 1) := by
    have h := fields42
    generalize (Try.prog.fieldsOf 42).toList = l at h
    have hl : l.length = 2 := by simpa using congrArg List.length h
    obtain ⟨f, l, rfl⟩ := List.exists_cons_of_length_pos (by omega : 0 < l.length)
    obtain ⟨g, l, rfl⟩ := List.exists_cons_of_length_pos (by simp at hl; omega : 0 < l.length)
    obtain rfl : l = [] := List.eq_nil_of_length_eq_zero (by simp at hl; exact List.length_eq_zero_iff.2 hl)
    simp only [List.map_cons, List.map_nil, List.cons.injEq, and_true] at h
    exact ⟨f, g, rfl, h.1, h.2⟩
  simp only [Prod.mk.injEq] at h1 h2
  rw [h]
  have n1 : f.name ≠ "_" := by simpa using h1.1
  have n2 : g.name ≠ "_" := by simpa using h2.1
  have p (x y : Value) (i : Nat) (hi : i < 2) : (part 23 #[x, y] i).run Try.prog w = .ok (if i = 0 then x else y) w := by
    rw [run_part_plain w (v := if i = 0 then x else y) (by kernel_rfl) ?_]
    match i, hi with
    | 0, _ => rfl
    | 1, _ => rfl
  simp only [Op.eqFields, n1, n2, ne_eq, not_false_eq_true, if_true, h1.2.1, h1.2.2, h2.2.1, h2.2.2, Sem.run_bind, p _ _ 0 (by omega), Result.andThen_ok]
  rw [show (9999 : Nat) = 9998 + 1 from rfl]
  simp only [run_equalIn_int (P := Try.prog) w 9998 23 .u64 .u64 _ _ Try.underlying23, Result.andThen_ok]
  cases hac : (a == c) <;> cases hbd : (b == d) <;> simp [hbd, p _ _ 1 (by omega), run_equalIn_int (P := Try.prog) w 9998 23 .u64 .u64 _ _ Try.underlying23]
theorem run_eql42 (a b c d : Int) (w : World) : (binOp .eql 42 (.agg #[.int .u64 a, .int .u64 b]) (.agg #[.int .u64 c, .int .u64 d])).run Try.prog w = .ok (.bool (a == c && b == d)) w := by
  rw [run_eql_struct, show (10000 : Nat) = 9999 + 1 from rfl, run_equalIn_agg w 9999 42 _ _ und42 stood42]
  obtain ⟨f, g, h, h1, h2⟩ : ∃ f g, (Try.prog.fieldsOf 42).toList = [f, g] ∧ (f.name == "_", f.type, f.offset) = (false, 23, 0) ∧ (g.name == "_", g.type, g.offset) = (false, 23, 1) := by
    have h := fields42
    generalize (Try.prog.fieldsOf 42).toList = l at h
    have hl : l.length = 2 := by simpa using congrArg List.length h
    obtain ⟨f, l, rfl⟩ := List.exists_cons_of_length_pos (by omega : 0 < l.length)
    obtain ⟨g, l, rfl⟩ := List.exists_cons_of_length_pos (by simp at hl; omega : 0 < l.length)
    obtain rfl : l = [] := List.eq_nil_of_length_eq_zero (by simp at hl; exact List.length_eq_zero_iff.2 hl)
    simp only [List.map_cons, List.map_nil, List.cons.injEq, and_true] at h
    exact ⟨f, g, rfl, h.1, h.2⟩
  simp only [Prod.mk.injEq] at h1 h2
  rw [h]
  have n1 : f.name ≠ "_" := by simpa using h1.1
  have n2 : g.name ≠ "_" := by simpa using h2.1
  have p (x y : Value) (i : Nat) (hi : i < 2) : (part 23 #[x, y] i).run Try.prog w = .ok (if i = 0 then x else y) w := by
    rw [run_part_plain w (v := if i = 0 then x else y) (by kernel_rfl) ?_]
    match i, hi with
    | 0, _ => rfl
    | 1, _ => rfl
  simp only [Op.eqFields, n1, n2, ne_eq, not_false_eq_true, if_true, h1.2.1, h1.2.2, h2.2.1, h2.2.2, Sem.run_bind, p _ _ 0 (by omega), Result.andThen_ok]
  rw [show (9999 : Nat) = 9998 + 1 from rfl]
  simp only [run_equalIn_int (P := Try.prog) w 9998 23 .u64 .u64 _ _ Try.underlying23, Result.andThen_ok]
  cases hac : (a == c) <;> cases hbd : (b == d) <;> simp [hbd, p _ _ 1 (by omega), run_equalIn_int (P := Try.prog) w 9998 23 .u64 .u64 _ _ Try.underlying23]
theorem und45 : Try.prog.underlying 45 = some (.struct (Try.prog.fieldsOf 45)) := by kernel_rfl
theorem stood45 : Try.prog.stoodInHeld 45 = false := by kernel_rfl
theorem guard45 : Try.prog.eqGuardType Try.prog.depth 45 = false := by kernel_rfl
theorem fields45 : (Try.prog.fieldsOf 45).toList.map (fun f => (f.name == "_", f.type, f.offset)) = [(false, 23, 0), (false, 23, 1)] := by kernel_rfl
theorem run_neq45 (a b c d : Int) (w : World) : (binOp .neq 45 (.agg #[.int .u64 a, .int .u64 b]) (.agg #[.int .u64 c, .int .u64 d])).run Try.prog w = .ok (.bool (!(a == c && b == d))) w := by
  rw [run_neq_struct, show (10000 : Nat) = 9999 + 1 from rfl, run_equalIn_agg w 9999 45 _ _ und45 stood45]
  obtain ⟨f, g, h, h1, h2⟩ : ∃ f g, (Try.prog.fieldsOf 45).toList = [f, g] ∧ (f.name == "_", f.type, f.offset) = (false, 23, 0) ∧ (g.name == "_", g.type, g.offset) = (false, 23, 1) := by
    have h := fields45
    generalize (Try.prog.fieldsOf 45).toList = l at h
    have hl : l.length = 2 := by simpa using congrArg List.length h
    obtain ⟨f, l, rfl⟩ := List.exists_cons_of_length_pos (by omega : 0 < l.length)
    obtain ⟨g, l, rfl⟩ := List.exists_cons_of_length_pos (by simp at hl; omega : 0 < l.length)
    obtain rfl : l = [] := List.eq_nil_of_length_eq_zero (by simp at hl; exact List.length_eq_zero_iff.2 hl)
    simp only [List.map_cons, List.map_nil, List.cons.injEq, and_true] at h
    exact ⟨f, g, rfl, h.1, h.2⟩
  simp only [Prod.mk.injEq] at h1 h2
  rw [h]
  have n1 : f.name ≠ "_" := by simpa using h1.1
  have n2 : g.name ≠ "_" := by simpa using h2.1
  have p (x y : Value) (i : Nat) (hi : i < 2) : (part 23 #[x, y] i).run Try.prog w = .ok (if i = 0 then x else y) w := by
    rw [run_part_plain w (v := if i = 0 then x else y) (by kernel_rfl) ?_]
    match i, hi with
    | 0, _ => rfl
    | 1, _ => rfl
  simp only [Op.eqFields, n1, n2, ne_eq, not_false_eq_true, if_true, h1.2.1, h1.2.2, h2.2.1, h2.2.2, Sem.run_bind, p _ _ 0 (by omega), Result.andThen_ok]
  rw [show (9999 : Nat) = 9998 + 1 from rfl]
  simp only [run_equalIn_int (P := Try.prog) w 9998 23 .u64 .u64 _ _ Try.underlying23, Result.andThen_ok]
  cases hac : (a == c) <;> cases hbd : (b == d) <;> simp [hbd, p _ _ 1 (by omega), run_equalIn_int (P := Try.prog) w 9998 23 .u64 .u64 _ _ Try.underlying23]
end Go.Proofs.Ythjcohaldjfniaa.Ix
