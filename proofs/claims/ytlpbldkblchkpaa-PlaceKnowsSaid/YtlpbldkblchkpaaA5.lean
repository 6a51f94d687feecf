/- place: entries compared; the document's Same, walked. -/
import Derived.Test.YtlpbldkblchkpaaA4
import Derived.Laws.StructEq
namespace Go.Proofs.Ytlpbldkblchkpaa.Pl
open Go Go.RowKit
theorem und37 : Try.prog.underlying 37 = some (.struct (Try.prog.fieldsOf 37)) := by kernel_rfl
theorem stood37 : Try.prog.stoodInHeld 37 = false := by kernel_rfl
theorem fields37 : (Try.prog.fieldsOf 37).toList.map (fun f => (f.name == "_", f.type, f.offset)) = [(false, 28, 0), (false, 5, 1), (false, 28, 2)] := by kernel_rfl
theorem flat28 : Try.prog.cellsOf 28 = 1 := by kernel_rfl
theorem flat5 : Try.prog.cellsOf 5 = 1 := by kernel_rfl
def eqE (s t : Ent) : Bool := s.1 == t.1 && (s.2.1 == t.2.1 && s.2.2 == t.2.2)
theorem eqE_iff (s t : Ent) : eqE s t = decide (s = t) := by
  obtain ⟨a, b, c⟩ := s
  obtain ⟨d, e, f⟩ := t
  simp [eqE, Prod.ext_iff, Bool.decide_and]
  rfl
theorem run_neq37 (s t : Ent) (w : World) : (binOp .neq 37 (ev s) (ev t)).run Try.prog w = .ok (.bool (!(eqE s t))) w := by
  obtain ⟨a, b, c⟩ := s
  obtain ⟨d, e, f⟩ := t
  show (binOp .neq 37 (.agg #[.int .u32 a, .int .u8 b, .int .u32 c]) (.agg #[.int .u32 d, .int .u8 e, .int .u32 f])).run Try.prog w = _
  rw [run_neq_struct, show (10000 : Nat) = 9999 + 1 from rfl, run_equalIn_agg w 9999 37 _ _ und37 stood37]
  obtain ⟨f1, f2, f3, h, h1, h2, h3⟩ : ∃ f g k, (Try.prog.fieldsOf 37).toList = [f, g, k] ∧ (f.name == "_", f.type, f.offset) = (false, 28, 0) ∧ (g.name == "_", g.type, g.offset) = (false, 5, 1) ∧ (k.name == "_", k.type, k.offset) = (false, 28, 2) := by
    have h := fields37
    generalize (Try.prog.fieldsOf 37).toList = l at h
    have hl : l.length = 3 := by simpa using congrArg List.length h
    obtain ⟨f, l, rfl⟩ := List.exists_cons_of_length_pos (by omega : 0 < l.length)
    obtain ⟨g, l, rfl⟩ := List.exists_cons_of_length_pos (by simp at hl; omega : 0 < l.length)
    obtain ⟨k, l, rfl⟩ := List.exists_cons_of_length_pos (by simp at hl; omega : 0 < l.length)
    obtain rfl : l = [] := List.eq_nil_of_length_eq_zero (by simp at hl; exact List.length_eq_zero_iff.2 hl)
    simp only [List.map_cons, List.map_nil, List.cons.injEq, and_true] at h
    exact ⟨f, g, k, rfl, h.1, h.2.1, h.2.2⟩
  simp only [Prod.mk.injEq] at h1 h2 h3
  rw [h]
  have n1 : f1.name ≠ "_" := by simpa using h1.1
  have n2 : f2.name ≠ "_" := by simpa using h2.1
  have n3 : f3.name ≠ "_" := by simpa using h3.1
  have p28 (x y z : Value) (i : Nat) (hi : i < 3) : (part 28 #[x, y, z] i).run Try.prog w = .ok (if i = 0 then x else if i = 1 then y else z) w := by
    rw [run_part_plain w (v := if i = 0 then x else if i = 1 then y else z) (by kernel_rfl) ?_]
    match i, hi with
    | 0, _ => rfl
    | 1, _ => rfl
    | 2, _ => rfl
  have p5 (x y z : Value) (i : Nat) (hi : i < 3) : (part 5 #[x, y, z] i).run Try.prog w = .ok (if i = 0 then x else if i = 1 then y else z) w := by
    rw [run_part_plain w (v := if i = 0 then x else if i = 1 then y else z) (by kernel_rfl) ?_]
    match i, hi with
    | 0, _ => rfl
    | 1, _ => rfl
    | 2, _ => rfl
  simp only [Op.eqFields, n1, n2, n3, ne_eq, not_false_eq_true, if_true, h1.2.1, h1.2.2, h2.2.1, h2.2.2, h3.2.1, h3.2.2, Sem.run_bind, p28 _ _ _ 0 (by omega), Result.andThen_ok]
  rw [show (9999 : Nat) = 9998 + 1 from rfl]
  simp only [run_equalIn_int (P := Try.prog) w 9998 28 .u32 .u32 _ _ Try.underlying28, Result.andThen_ok]
  cases hac : (a == d) <;> cases hbd : (b == e) <;> cases hcf : (c == f) <;> simp [eqE, hac, hbd, hcf, p28 _ _ _ 2 (by omega), p5 _ _ _ 1 (by omega), run_equalIn_int (P := Try.prog) w 9998 28 .u32 .u32 _ _ Try.underlying28, run_equalIn_int (P := Try.prog) w 9998 5 .u8 .u8 _ _ Try.underlying5]
theorem run_eql37 (s t : Ent) (w : World) : (binOp .eql 37 (ev s) (ev t)).run Try.prog w = .ok (.bool (eqE s t)) w := by
  obtain ⟨a, b, c⟩ := s
  obtain ⟨d, e, f⟩ := t
  show (binOp .eql 37 (.agg #[.int .u32 a, .int .u8 b, .int .u32 c]) (.agg #[.int .u32 d, .int .u8 e, .int .u32 f])).run Try.prog w = _
  rw [run_eql_struct, show (10000 : Nat) = 9999 + 1 from rfl, run_equalIn_agg w 9999 37 _ _ und37 stood37]
  obtain ⟨f1, f2, f3, h, h1, h2, h3⟩ : ∃ f g k, (Try.prog.fieldsOf 37).toList = [f, g, k] ∧ (f.name == "_", f.type, f.offset) = (false, 28, 0) ∧ (g.name == "_", g.type, g.offset) = (false, 5, 1) ∧ (k.name == "_", k.type, k.offset) = (false, 28, 2) := by
    have h := fields37
    generalize (Try.prog.fieldsOf 37).toList = l at h
    have hl : l.length = 3 := by simpa using congrArg List.length h
    obtain ⟨f, l, rfl⟩ := List.exists_cons_of_length_pos (by omega : 0 < l.length)
    obtain ⟨g, l, rfl⟩ := List.exists_cons_of_length_pos (by simp at hl; omega : 0 < l.length)
    obtain ⟨k, l, rfl⟩ := List.exists_cons_of_length_pos (by simp at hl; omega : 0 < l.length)
    obtain rfl : l = [] := List.eq_nil_of_length_eq_zero (by simp at hl; exact List.length_eq_zero_iff.2 hl)
    simp only [List.map_cons, List.map_nil, List.cons.injEq, and_true] at h
    exact ⟨f, g, k, rfl, h.1, h.2.1, h.2.2⟩
  simp only [Prod.mk.injEq] at h1 h2 h3
  rw [h]
  have n1 : f1.name ≠ "_" := by simpa using h1.1
  have n2 : f2.name ≠ "_" := by simpa using h2.1
  have n3 : f3.name ≠ "_" := by simpa using h3.1
  have p28 (x y z : Value) (i : Nat) (hi : i < 3) : (part 28 #[x, y, z] i).run Try.prog w = .ok (if i = 0 then x else if i = 1 then y else z) w := by
    rw [run_part_plain w (v := if i = 0 then x else if i = 1 then y else z) (by kernel_rfl) ?_]
    match i, hi with
    | 0, _ => rfl
    | 1, _ => rfl
    | 2, _ => rfl
  have p5 (x y z : Value) (i : Nat) (hi : i < 3) : (part 5 #[x, y, z] i).run Try.prog w = .ok (if i = 0 then x else if i = 1 then y else z) w := by
    rw [run_part_plain w (v := if i = 0 then x else if i = 1 then y else z) (by kernel_rfl) ?_]
    match i, hi with
    | 0, _ => rfl
    | 1, _ => rfl
    | 2, _ => rfl
  simp only [Op.eqFields, n1, n2, n3, ne_eq, not_false_eq_true, if_true, h1.2.1, h1.2.2, h2.2.1, h2.2.2, h3.2.1, h3.2.2, Sem.run_bind, p28 _ _ _ 0 (by omega), Result.andThen_ok]
  rw [show (9999 : Nat) = 9998 + 1 from rfl]
  simp only [run_equalIn_int (P := Try.prog) w 9998 28 .u32 .u32 _ _ Try.underlying28, Result.andThen_ok]
  cases hac : (a == d) <;> cases hbd : (b == e) <;> cases hcf : (c == f) <;> simp [eqE, hac, hbd, hcf, p28 _ _ _ 2 (by omega), p5 _ _ _ 1 (by omega), run_equalIn_int (P := Try.prog) w 9998 28 .u32 .u32 _ _ Try.underlying28, run_equalIn_int (P := Try.prog) w 9998 5 .u8 .u8 _ _ Try.underlying5]
/-- Entries that stand from an address on. -/
def RdE (w : World) (ao : Option Addr) (L : List Ent) : Prop :=
  ∀ i t, L[i]? = some t → ∃ b off, ao = some ⟨b, off, none⟩ ∧ b < w.heap.size ∧ w.cell? ⟨b, off + i * 3, none⟩ = some (.int .u32 t.1) ∧ w.cell? ⟨b, off + i * 3 + 1, none⟩ = some (.int .u8 t.2.1) ∧ w.cell? ⟨b, off + i * 3 + 2, none⟩ = some (.int .u32 t.2.2)
theorem RdE.on {w w' : World} {ao : Option Addr} {L : List Ent} (h : RdE w ao L) {B : Nat} (hb : Below B w w') (hB : w.heap.size ≤ B) : RdE w' ao L := fun i t ht => by
  obtain ⟨b, off, h1, h2, h3, h4, h5⟩ := h i t ht
  exact ⟨b, off, h1, Nat.lt_of_lt_of_le h2 hb.size, (hb.cell (p := ⟨b, off + i * 3, none⟩) (by simp; omega)).trans h3, (hb.cell (p := ⟨b, off + i * 3 + 1, none⟩) (by simp; omega)).trans h4, (hb.cell (p := ⟨b, off + i * 3 + 2, none⟩) (by simp; omega)).trans h5⟩
theorem rd_own {w : World} {B e : Nat} {v : Value} {L : List Ent} (h : w.ownsRow B e 3 v L.length (fl L)) : ∃ ao cap, v = .slice ao L.length cap ∧ L.length ≤ cap ∧ RdE w ao L := by
  rcases h.2 with ⟨h0, h1⟩ | ⟨g, cap, cur, h0, h1, h2, h3, h4⟩
  · exact ⟨none, 0, by rw [h0, h1], by omega, fun i t ht => by
      rw [List.eq_nil_of_length_eq_zero h1] at ht; simp at ht⟩
  · have hc : ∀ j u, (fl L)[j]? = some u → w.cell? ⟨g, 0 + j, none⟩ = some u := fun j u hu => by
      have := h.cells (g := g) (by rw [h0]; rfl) _ _ hu
      rwa [Go.WideShapes.add_plain] at this
    refine ⟨some ⟨g, 0, none⟩, cap, h0, h3, fun i t ht => ⟨g, 0, rfl, (Array.getElem?_eq_some_iff.1 h2).1, ?_, ?_, ?_⟩⟩
    · exact hc _ _ (fl_at ht 0 (by omega))
    · rw [Nat.add_assoc]; exact hc _ _ (fl_at ht 1 (by omega))
    · rw [Nat.add_assoc]; exact hc _ _ (fl_at ht 2 (by omega))
set_option maxHeartbeats 1000000 in
theorem same_any (ao bo : Option Addr) (ca cb : Nat) (L M : List Ent) (w : World) (hL : RdE w ao L) (hM : RdE w bo M) (h1 : L.length ≤ 1000) (_h2 : M.length ≤ 1000) :
    Calls Try.prog 9 #[.slice ao L.length ca, .slice bo M.length cb] w fun e w' => e = .returned (.bool (decide (L = M))) ∧ Below w.heap.size w w' := by
  by_cases hlen : L.length = M.length
  · have HL := Lib.hid (And.intro hL hM)
    obtain ⟨n, hn⟩ : ∃ n, L.length = n := ⟨_, rfl⟩
    have hn2 : M.length = n := by omega
    rw [hn, hn2]
    have HN := Lib.hid (And.intro hn hn2)
    have hn3 : n ≤ 1000 := by omega
    clear hL hM h1 _h2 hlen hn hn2
    go_enter Try.func9, Try.ntmps9
    go_wp2_with fail
    go_loopw [13] (fun u wr => ∃ j : Nat, j ≤ n ∧ u = .int .i64 j ∧ Hid (L.take j = M.take j ∧ Below w.heap.size w wr)) (fun u _ => n - (intOf u).toNat)
    case atStart => exact ⟨0, by omega, rfl, Lib.hid ⟨by simp, Below.refl _ _⟩⟩
    case round =>
      obtain ⟨j, hj, rfl, HA⟩ := hrel
      by_cases hlt : j < n
      · obtain ⟨s, hs⟩ : ∃ s, L[j]? = some s := ⟨_, List.getElem?_eq_getElem (by have := HN.out; omega)⟩
        obtain ⟨t, ht⟩ : ∃ t, M[j]? = some t := ⟨_, List.getElem?_eq_getElem (by have := HN.out; omega)⟩
        obtain ⟨g, og, rfl, _, c1, c2, c3⟩ := (HL.out.1.on HA.out.2 (Nat.le_refl _)) j s hs
        obtain ⟨q, oq, rfl, _, d1, d2, d3⟩ := (HL.out.2.on HA.out.2 (Nat.le_refl _)) j t ht
        have HT := Lib.hid (And.intro hs ht)
        have hneq := run_neq37 s t
        unfold ev at hneq
        rw [eqE_iff] at hneq
        have j1 : (j : Int) < (n : Int) := by omega
        clear hs ht
        by_cases hst : s = t
        · rw [decide_eq_true hst] at hneq
          have HST := Lib.hid hst
          clear hst
          go_wp2_with fail
          go_quiet (fail)
          go_wp2_with fail
          refine ⟨⟨j + 1, by omega, rfl, Lib.hid ⟨?_, HA.out.2.trans ((Below.drewN_refl wr nq).mono HA.out.2.size)⟩⟩, by simp [intOf]; omega⟩
          rw [take_next HT.out.1, take_next HT.out.2, HA.out.1, HST.out]
        · rw [decide_eq_false hst] at hneq
          have Fin := Lib.hid (show ¬ L = M from fun e => by
            have h1 := HT.out.1
            rw [e, HT.out.2] at h1
            injection h1 with h1
            exact hst h1.symm)
          clear hst
          go_wp2_with fail
          go_quiet (fail)
          go_wp2_with fail
          go_ret
          exact ⟨by rw [decide_eq_false Fin.out]; rfl, HA.out.2.trans ((Below.drewN_refl wr nq).mono HA.out.2.size)⟩
      · obtain rfl : j = n := by omega
        have Fin := Lib.hid (show L = M from by
          have h := HA.out.1
          rwa [List.take_of_length_le (by rw [HN.out.1]; exact Nat.le_refl _), List.take_of_length_le (by rw [HN.out.2]; exact Nat.le_refl _)] at h)
        go_wp2_with fail
        go_ret
        exact ⟨by rw [decide_eq_true Fin.out]; rfl, HA.out.2⟩
  · have Fin := Lib.hid (show ¬ L = M from fun e => hlen (by rw [e]))
    have e1 : ((L.length : Int) == (M.length : Int)) = false := by simp; omega
    clear hL hM
    go_enter Try.func9, Try.ntmps9
    go_wp2_with fail
    go_ret
    exact ⟨by rw [decide_eq_false Fin.out]; rfl, Below.refl _ _⟩
end Go.Proofs.Ytlpbldkblchkpaa.Pl
