/- The law on what is read, walked. -/
import Derived.Test.YtnjapbfnodfgpaaW33
namespace Go.Proofs.Ytnjapbfnodfgpaa.Rk
open Go Go.RowKit
theorem tri_parts (k : IntKind) (r : Option (Int × Int)) : ∃ x y z, tri k r = .tuple #[.int k x, .int .i64 y, .int .i64 z] := by
  cases r with
  | none => exact ⟨_, _, _, rfl⟩
  | some p => exact ⟨_, _, _, rfl⟩
/-- What a reading of bytes answers: they, how long their code is, an error's number. -/
def TP (t : List Int) (i er : Int) (w : World) (e : Ending) (w' : World) : Prop :=
  Below w.heap.size w w' ∧ ∃ ao c, e = .returned (.tuple #[.slice ao t.length c, .int .i64 i, .int .i64 er]) ∧ Own w' w.heap.size (.slice ao t.length c) t
theorem tp_of (r : Option (List Int × Nat)) : ∃ t i er, ∀ {w : World} {e : Ending} {w' : World}, RtPost r w e w' → TP t i er w e w' := by
  cases r with
  | none => exact ⟨[], 0, 3, fun {w e w'} h => ⟨h.1, none, 0, h.2, World.ownsRow_nil _ _ _ _⟩⟩
  | some p => exact ⟨p.1, p.2, 0, fun {w e w'} h => by obtain ⟨h1, ao, c, h2, h3⟩ := h; exact ⟨h1, ao, c, h2, h3⟩⟩
theorem both (l : List Int) (n : Nat) (most : Int) (hl : l.length = n) (hn : n ≤ 140737488351232) (hb : ∀ x ∈ l, 0 ≤ x ∧ x ≤ 255) :
    ∃ t i er, (∀ (w : World) ao c, Rd w ao l → Calls Try.prog 22 #[.slice ao n c, .int .i64 most] w (TP t i er w)) ∧
      (∀ (w : World) ao c, n ≤ c → c ≤ maxLen → Rd w ao l → Calls Try.prog 25 #[.slice ao n c, .int .i64 most] w (TP t i er w)) := by
  by_cases h : most < 0 ∨ 65536 < most
  · have arg : ∀ {w : World} {e : Ending} {w' : World}, ArgPost w e w' → TP [] 0 1 w e w' := fun {w e w'} h => ⟨h.2, none, 0, h.1, World.ownsRow_nil _ _ _ _⟩
    exact ⟨[], 0, 1, fun w ao c _ => (rt_arg ao n c most w h).mono fun e w' h => arg h, fun w ao c _ _ _ => (dt_arg ao n c most w h).mono fun e w' h => arg h⟩
  · obtain ⟨m, rfl⟩ : ∃ m : Nat, most = m := ⟨most.toNat, by omega⟩
    obtain ⟨t, i, er, hp⟩ := tp_of (rt m false [] 0 l)
    exact ⟨t, i, er, fun w ao c ha => (rt_any ao n c m l w (by omega) (by unfold maxLen; omega) hl ha hb).mono fun e w' h => hp h,
      fun w ao c h1 h2 ha => (dt_any ao n c m l w (by omega) h1 h2 hn hl ha).mono fun e w' h => hp h⟩
theorem own_le {w : World} {B : Nat} {ao : Option Addr} {c : Nat} {l : List Int} (h : Own w B (.slice ao l.length c) l) : l.length ≤ maxLen ∧ (l ≠ [] → ∃ g, ao = some ⟨g, 0, none⟩) := by
  unfold Own at h
  rcases h.2 with ⟨_, h0⟩ | ⟨g, cap, cur, h1, _, _, h2, h3, _⟩
  · exact ⟨by rw [h0]; exact Nat.zero_le _, fun hne => absurd (List.length_eq_zero_iff.1 h0) hne⟩
  · simp only [Value.slice.injEq] at h1
    exact ⟨Nat.le_trans h2 h3, fun _ => ⟨g, h1.1⟩⟩
theorem set_bs (xs : List Int) (j : Nat) (z : Int) : (bs xs).set j (.int .u8 z) = bs (xs.set j z) := by
  unfold bs; rw [List.map_set]
set_option maxRecDepth 100000 in
set_option maxHeartbeats 8000000 in
theorem reads (ao : Option Addr) (n c : Nat) (most : Int) (l : List Int) (w : World) (hnc : n ≤ c) (hcm : c ≤ maxLen) (hn : n ≤ 140737488351232) (hl : l.length = n) (ha : Rd w ao l) (hb : ∀ x ∈ l, 0 ≤ x ∧ x ≤ 255) (hao : ao = none → c = 0) :
    Calls Try.prog 4 #[.slice ao n c, .int .i64 most] w fun e w' => e = .returned (.bool true) ∧ Below w.heap.size w w' := by
  have hu := fun w ao c (h1 : n ≤ c) (h2 : c ≤ maxLen) (h : Rd w ao l) => ru_any ao n c l w h1 h2 hl h hb
  have hu' := fun w ao c (h1 : n ≤ c) (h2 : c ≤ maxLen) (h : Rd w ao l) => du_any ao n c l w h1 h2 hl h hb
  have hi := fun w ao c (h1 : n ≤ c) (h2 : c ≤ maxLen) (h : Rd w ao l) => ri_any ao n c l w h1 h2 hl h hb
  have hi' := fun w ao c (h1 : n ≤ c) (h2 : c ≤ maxLen) (h : Rd w ao l) => di_any ao n c l w h1 h2 hl h hb
  obtain ⟨u1, u2, u3, eu⟩ := tri_parts .u64 (ruR l)
  obtain ⟨v1, v2, v3, ev⟩ := tri_parts .i64 (riR l)
  rw [eu] at hu hu'
  rw [ev] at hi hi'
  obtain ⟨t, i, er, ht, ht'⟩ := both l n most hl hn hb
  have HU := Lib.hid hu
  have HU' := Lib.hid hu'
  have HI := Lib.hid hi
  have HI' := Lib.hid hi'
  have HT := Lib.hid ht
  have HT' := Lib.hid ht'
  have HN := Lib.hid hnc
  have HC := Lib.hid hcm
  have HS := Lib.hid (fun w (h : Rd w ao l) => spare_any ao n c l w (by omega) hl h hao)
  have HL := Lib.hid hl
  have Ra := Lib.hid ha
  clear hu hu' hi hi' ht ht' hnc hcm hl ha hb hao eu ev
  go_enter Try.func4, Try.ntmps4
  go_wp2_with fail
  refine (awake_any w).mono ?_
  rintro e w1 ⟨rfl, hb1⟩
  have Ra1 := Lib.hid (Ra.out.on hb1 (Nat.le_refl _))
  go_wp2_with fail
  refine (HS.out _ Ra1.out).mono ?_
  rintro e w2 ⟨g, cc, rfl, ⟨hof, hc1, hc2⟩, hB2⟩
  have hb2 := hb1.trans (hB2.mono hb1.size)
  have hof' : w2.ownsRow w1.heap.size 5 1 (.slice (some ⟨g, 0, none⟩) (n + 3) cc) (n + 3) (bs (l ++ [165, 90, 165])) := by have h9 := hof; unfold Own at h9; rw [List.length_append, HL.out] at h9; exact h9
  have Rf2 := Lib.hid (own_rd hof' (by rw [List.length_append, HL.out]; rfl))
  have Rq2 := Lib.hid ((kept_facts Rf2.out).1)
  have Ra2 := Lib.hid (Ra1.out.on hB2 (Nat.le_refl _))
  have H1 := Lib.hid (show n ≤ cc by omega)
  have H2 := Lib.hid hc1
  have H3 := Lib.hid hc2
  clear hof hof' hc1 hc2 hB2 hb1 Ra1 Ra HS
  go_wp2_with fail
  refine (HU.out _ _ _ H1.out H3.out Rq2.out).mono ?_
  rintro e w3 ⟨rfl, hB3⟩
  have hb3 := hb2.trans (hB3.mono hb2.size)
  have Ra3 := Lib.hid (Ra2.out.on hB3 (Nat.le_refl _))
  have Rq3 := Lib.hid (Rq2.out.on hB3 (Nat.le_refl _))
  have Rf3 := Lib.hid (Rf2.out.on hB3 (Nat.le_refl _))
  clear Ra2 Rq2 Rf2 hB3 hb2 HU
  go_wp2_with fail
  refine (HU'.out _ _ _ HN.out HC.out Ra3.out).mono ?_
  rintro e w4 ⟨rfl, hB4⟩
  have hb4 := hb3.trans (hB4.mono hb3.size)
  have Ra4 := Lib.hid (Ra3.out.on hB4 (Nat.le_refl _))
  have Rq4 := Lib.hid (Rq3.out.on hB4 (Nat.le_refl _))
  have Rf4 := Lib.hid (Rf3.out.on hB4 (Nat.le_refl _))
  clear Ra3 Rq3 Rf3 hB4 hb3 HU'
  go_wp2_with fail
  refine (HI.out _ _ _ H1.out H3.out Rq4.out).mono ?_
  rintro e w5 ⟨rfl, hB5⟩
  have hb5 := hb4.trans (hB5.mono hb4.size)
  have Ra5 := Lib.hid (Ra4.out.on hB5 (Nat.le_refl _))
  have Rq5 := Lib.hid (Rq4.out.on hB5 (Nat.le_refl _))
  have Rf5 := Lib.hid (Rf4.out.on hB5 (Nat.le_refl _))
  clear Ra4 Rq4 Rf4 hB5 hb4 HI
  go_wp2_with fail
  refine (HI'.out _ _ _ HN.out HC.out Ra5.out).mono ?_
  rintro e w6 ⟨rfl, hB6⟩
  have hb6 := hb5.trans (hB6.mono hb5.size)
  have Ra6 := Lib.hid (Ra5.out.on hB6 (Nat.le_refl _))
  have Rq6 := Lib.hid (Rq5.out.on hB6 (Nat.le_refl _))
  have Rf6 := Lib.hid (Rf5.out.on hB6 (Nat.le_refl _))
  clear Ra5 Rq5 Rf5 hB6 hb5 HI'
  go_wp2_with fail
  refine (HT.out _ _ _ Rq6.out).mono ?_
  rintro e w7 ⟨hB7, xo, xc, rfl, ox⟩
  have hb7 := hb6.trans (hB7.mono hb6.size)
  have Ra7 := Lib.hid (Ra6.out.on hB7 (Nat.le_refl _))
  have OX7 := Lib.hid ox
  clear ox Rq6 HT
  go_wp2_with fail
  refine (HT'.out _ _ _ HN.out HC.out Ra7.out).mono ?_
  rintro e w8 ⟨hB8, yo, yc, rfl, oy⟩
  have hb8 := hb7.trans (hB8.mono hb7.size)
  have OX8 := Lib.hid (OX7.out.on hB8)
  have hRx := Lib.hid (own_slice_rd OX8.out)
  have hRy := Lib.hid (own_slice_rd oy)
  have HX8 := Lib.hid (hB7.trans (hB8.mono hB7.size))
  clear oy OX7 hB7 hB8 hb7 HT' Ra7
  obtain ⟨hle, hsh⟩ := own_le OX8.out
  have hle2 := hle
  unfold maxLen at hle2
  have HSm := Lib.hid (same_says (x := true) xc yc hle hRx.out hRy.out (decide_eq_true rfl))
  clear hle hRx hRy
  go_wp2_with fail
  refine HSm.out.mono ?_
  rintro e w9 ⟨rfl, hB9⟩
  have OX9 := Lib.hid (OX8.out.on hB9)
  have HX9 := Lib.hid (HX8.out.trans (hB9.mono HX8.out.size))
  clear OX8 HX8 hB9 HSm hb8
  by_cases h0 : t = []
  · subst h0
    have Rf9 := Lib.hid (Rf6.out.on HX9.out (Nat.le_refl _))
    have Ra9 := Lib.hid (Ra6.out.on HX9.out (Nat.le_refl _))
    have hb9 := hb6.trans (HX9.out.mono hb6.size)
    have HK := Lib.hid (kept_any g cc ao n c l w9 H2.out H3.out HL.out Rf9.out Ra9.out)
    go_wp2_with fail
    refine wp_loop_rounds 1 ?_
    rw [rounds_succ]
    go_wp2_with fail
    refine HK.out.mono ?_
    rintro e wk ⟨rfl, hBk⟩
    go_wp2_with fail
    go_ret
    exact ⟨by simp, hb9.trans (hBk.mono hb9.size)⟩
  · obtain ⟨gx, rfl⟩ := hsh h0
    clear h0
    go_wp2_with fail
    go_loopw [117] (fun iv wq => ∃ (j : Nat) (xs : List Int), j ≤ t.length ∧ iv = .int .i64 j ∧ xs.length = t.length ∧ Hid (wq.ownsRow w6.heap.size 5 1 (.slice (some ⟨gx, 0, none⟩) t.length xc) t.length (bs xs)) ∧ Hid (Below w6.heap.size w6 wq)) (fun i _ => t.length - (intOf i).toNat)
    case atStart => exact ⟨0, t, Nat.zero_le _, rfl, rfl, OX9, HX9⟩
    case round =>
      obtain ⟨j, xs, hj, rfl, hxl, hown, hX⟩ := hrel
      by_cases hlt : j < t.length
      · have hc : wr.cell? ⟨gx, j, none⟩ = some (.int .u8 (xs.getD j 0)) := by rw [hown.out.cellAt j (by omega), bs_get (by omega)]
        have hf : wr.frozen? ⟨gx, j, none⟩ = false := hown.out.frozenAt j
        generalize xs.getD j 0 = y at *
        go_wp2_with fail
        go_roundw
        case rel => exact ⟨j + 1, xs.set j (bits BinOp.xor IntKind.u8 y 1), by omega, by go_num, by rw [List.length_set]; exact hxl, by rw [← set_bs]; exact (hown.out.stored _ _).1, hX.out.setCell (by exact (World.ownsRow.lt hown.out gx rfl).1) _⟩
        case measure => simp [intOf]; omega
      · have Rf9 := Lib.hid (Rf6.out.on hX.out (Nat.le_refl _))
        have Ra9 := Lib.hid (Ra6.out.on hX.out (Nat.le_refl _))
        have hb9 := hb6.trans (hX.out.mono hb6.size)
        have HK := Lib.hid (kept_any g cc ao n c l wr H2.out H3.out HL.out Rf9.out Ra9.out)
        go_wp2_with fail
        refine HK.out.mono ?_
        rintro e wk ⟨rfl, hBk⟩
        go_wp2_with fail
        go_ret
        exact ⟨by simp, hb9.trans (hBk.mono hb9.size)⟩
end Go.Proofs.Ytnjapbfnodfgpaa.Rk
