/- commit: Begin, walked. -/
import Derived.Test.YtklalpamcfkngaaB2
import Derived.Test.YtklalpamcfkngaaB4
namespace Go.Proofs.Ytklalpamcfkngaa.Cm
open Go Go.RowKit
/-- The error of a list of nodes. -/
def listE (L : List Int) : Int := if L.length = 0 ∨ 4 < L.length ∨ (∃ x ∈ L, 3 < x) then 1 else if L.Nodup then 0 else 3
theorem foldl_max_ge : ∀ (L : List Int) (a : Int), a ≤ L.foldl max a
  | [], a => Int.le_refl _
  | x :: L, a => Int.le_trans (by omega) (foldl_max_ge L (max a x))
theorem le_foldl_max {L : List Int} {x : Int} (h : x ∈ L) (a : Int) : x ≤ L.foldl max a := by
  induction L generalizing a with
  | nil => cases h
  | cons y L ih =>
    rcases List.mem_cons.1 h with rfl | h
    · exact Int.le_trans (by omega) (foldl_max_ge L (max a x))
    · exact ih h _
theorem foldl_max_le : ∀ (L : List Int) (a b : Int), a ≤ b → (∀ x ∈ L, x ≤ b) → L.foldl max a ≤ b
  | [], _, _, h, _ => h
  | x :: L, a, b, h, h2 => foldl_max_le L _ b (by have := h2 x (List.mem_cons_self ..); omega) (fun y hy => h2 y (List.mem_cons_of_mem _ hy))
theorem maxL_all (L : List Int) : maxL L L.length = L.foldl max 0 := by unfold maxL; rw [List.take_length]
theorem setOf_ok (ao : Option Addr) (n c : Nat) (L : List Int) (w : World) (hL : L.length = n) (hr : Rd w ao L) (hi : ∀ x ∈ L, 0 ≤ x ∧ x ≤ 255) (he : listE L = 0) :
    Calls Try.prog 35 #[.slice ao n c] w fun e w' => e = .returned (sete (memF L) 0) ∧ Below w.heap.size w w' := by
  unfold listE at he
  split at he
  · cases he
  · rename_i h
    split at he
    · rename_i hN
      have h3 : ∀ x ∈ L, x ≤ 3 := fun x hx => by
        refine Decidable.byContradiction fun hc => h (.inr (.inr ⟨x, hx, by omega⟩))
      refine (setOf_in ao n c L w hL (by omega) (by omega) hr (fun x hx => ⟨(hi x hx).1, h3 x hx⟩) ?_).mono ?_
      · rw [← hL, maxL_all]
        have := foldl_max_le L 0 3 (by omega) h3
        omega
      · rintro e w' ⟨h, hb⟩
        rcases h with ⟨_, h⟩ | ⟨h, _⟩
        · exact ⟨h, hb⟩
        · exact absurd hN h
    · cases he
theorem setOf_bad (ao : Option Addr) (n c : Nat) (L : List Int) (w : World) (hL : L.length = n) (hr : Rd w ao L) (hi : ∀ x ∈ L, 0 ≤ x ∧ x ≤ 255) {er : Int} (hee : listE L = er) (he : er ≠ 0) :
    Calls Try.prog 35 #[.slice ao n c] w fun e w' => e = .returned (sete noF er) ∧ Below w.heap.size w w' := by
  subst hee
  unfold listE at he ⊢
  split at he
  · rename_i h
    rw [if_pos h]
    by_cases h0 : n = 0
    · subst h0; exact setOf_none ao c w
    · by_cases h4 : 4 < n
      · exact setOf_many ao n c w h4
      · obtain ⟨x, hx, h3⟩ : ∃ x ∈ L, 3 < x := by
          rcases h with h | h | h
          · omega
          · omega
          · exact h
        refine setOf_high ao n c L w hL (by omega) (by omega) hr hi ?_
        rw [← hL, maxL_all]
        have := le_foldl_max hx 0
        omega
  · rename_i h
    rw [if_neg h]
    split at he
    · exact absurd rfl he
    · rename_i hN
      rw [if_neg hN]
      have h3 : ∀ x ∈ L, x ≤ 3 := fun x hx => by
        refine Decidable.byContradiction fun hc => h (.inr (.inr ⟨x, hx, by omega⟩))
      refine (setOf_in ao n c L w hL (by omega) (by omega) hr (fun x hx => ⟨(hi x hx).1, h3 x hx⟩) ?_).mono ?_
      · rw [← hL, maxL_all]
        have := foldl_max_le L 0 3 (by omega) h3
        omega
      · rintro e w' ⟨h, hb⟩
        rcases h with ⟨h, _⟩ | ⟨_, h⟩
        · exact absurd h hN
        · exact ⟨h, hb⟩
theorem wp_mapUpdate_own {H : Type} {P : Program} (w : World) {o : Oper} {a : Act} {K' : Act → World → Prop} {Q : Exit → Act → World → Prop}
    (m x v : Operand) (t : TypeId) (hop : o.op = Op.mapUpdate t m x v)
    (k e : TypeId) (K : Maps.Keyed P k) (ht : P.underlying t = some (.map k e)) (R : Value → Option (DataW H × List MemPlace)) (b n : Nat) (D : DataW H)
    (hm : a.eval m = .map (some b)) (hown : w.ownsMap P k R b n D) (hn : n < maxLen) (key val : Value) (kl : Lit) (hx : a.eval x = key) (hv : a.eval v = val) (hkey : keyOf P k key = some kl)
    (d : DataW H) (ps : List MemPlace) (hval : R val = some (d, ps))
    (hK : ∀ w', w'.ownsMap P k R b (n + 1) (D.put kl d) → w.grownBy w' (some b) → K' (a.put o.dst undef) w') : o.wp P a w K' Q := by
  obtain ⟨w', hrun, r1, r2⟩ := hown.update K ht hn hkey hval
  unfold Oper.wp
  simp [execOp, hop, hm, hx, hv, hrun, Result.andThen]
  exact hK _ r1 r2
theorem begin_bad (q : Option Addr) (t : TK) (ao : Option Addr) (n c : Nat) (L : List Int) (w : World) (hL : L.length = n) (hr : Rd w ao L) (hi : ∀ x ∈ L, 0 ≤ x ∧ x ≤ 255) {er : Int} (hee : listE L = er) (he : er ≠ 0) :
    Calls Try.prog 12 #[.pointer q, .agg #[.int .u8 t.1, .int .u32 t.2.1, .int .u32 t.2.2], .slice ao n c] w fun e w' => e = .returned (.int .i64 er) ∧ Below w.heap.size w w' := by
  have hb0 := Lib.hid ((Below.refl _ w).alloc (Nat.le_refl _) (.cells #[.int .u8 t.1, .int .u32 t.2.1, .int .u32 t.2.2] 33))
  have H := Lib.hid (And.intro hL (And.intro (hr.on hb0.out (Nat.le_refl _)) (And.intro hi (And.intro hee he))))
  have e0 : (er != 0) = true := by simpa using he
  clear hL hr hi hee he
  go_enter Try.func12, Try.ntmps12
  go_wp2_with (go_at_call 35; refine (setOf_bad ao n c L _ H.out.1 H.out.2.1 H.out.2.2.1 H.out.2.2.2.1 H.out.2.2.2.2).mono ?_; rintro e w1 ⟨rfl, hb⟩; unfold sete ag4 noF; have H1 := Lib.hid (hb0.out.trans (hb.mono hb0.out.size)); clear hb)
  go_ret
  exact ⟨rfl, H1.out.alloc H1.out.size _⟩
theorem begin_nil (t : TK) (ao : Option Addr) (n c : Nat) (L : List Int) (w : World) (hL : L.length = n) (hr : Rd w ao L) (hi : ∀ x ∈ L, 0 ≤ x ∧ x ≤ 255) (he : listE L = 0) :
    Calls Try.prog 12 #[.pointer none, .agg #[.int .u8 t.1, .int .u32 t.2.1, .int .u32 t.2.2], .slice ao n c] w fun e w' => e = .returned (.int .i64 6) ∧ Below w.heap.size w w' := by
  have hb0 := Lib.hid ((Below.refl _ w).alloc (Nat.le_refl _) (.cells #[.int .u8 t.1, .int .u32 t.2.1, .int .u32 t.2.2] 33))
  have H := Lib.hid (And.intro hL (And.intro (hr.on hb0.out (Nat.le_refl _)) (And.intro hi he)))
  clear hL hr hi he
  go_enter Try.func12, Try.ntmps12
  go_wp2_with (go_at_call 35; refine (setOf_ok ao n c L _ H.out.1 H.out.2.1 H.out.2.2.1 H.out.2.2.2).mono ?_; rintro e w1 ⟨rfl, hb⟩; unfold sete ag4; have H1 := Lib.hid (hb0.out.trans (hb.mono hb0.out.size)); clear hb)
  go_ret
  exact ⟨rfl, H1.out.alloc H1.out.size _⟩
section
variable {w : World} {B nn p a b : Nat} {F : Nat → Prop} {R : TK → Option (Nat × RunM)} {RM : TK → Option RunM} {T : TK → Option Int} {t : TK}
theorem ptrV_get (hR : R t = none) : (ptrV R t).getD (.pointer none) = .pointer none := by simp [ptrV, hR]
theorem ptrV_get' {g : Nat} {m : RunM} (hR : R t = some (g, m)) : (ptrV R t).getD (.pointer none) = .pointer (some ⟨g, 0, none⟩) := by simp [ptrV, hR]
set_option maxRecDepth 100000 in
theorem begin_again (ao : Option Addr) (n c : Nat) (L : List Int) (hB : BookAt w B nn F p a b R T) (ht : InK t) {g : Nat} {m : RunM} (hR : R t = some (g, m)) (hL : L.length = n) (hr : Rd w ao L) (hi : ∀ x ∈ L, 0 ≤ x ∧ x ≤ 255) (he : listE L = 0) :
    Calls Try.prog 12 #[.pointer (some ⟨p, 0, none⟩), .agg #[.int .u8 t.1, .int .u32 t.2.1, .int .u32 t.2.2], .slice ao n c] w fun e w' => e = .returned (.int .i64 7) ∧ Below w.heap.size w w' := by
  have hb0 := Lib.hid ((Below.refl _ w).alloc (Nat.le_refl _) (.cells #[.int .u8 t.1, .int .u32 t.2.1, .int .u32 t.2.2] 33))
  have H := Lib.hid (And.intro hL (And.intro (hr.on hb0.out (Nat.le_refl _)) (And.intro hi he)))
  have HB := Lib.hid (hB.below hb0.out)
  have HR := Lib.hid hR
  have hsz := (hB.hi p hB.fp)
  clear hL hr hi he hB hR
  go_enter Try.func12, Try.ntmps12
  go_wp2_with (go_at_call 35; refine (setOf_ok ao n c L _ H.out.1 H.out.2.1 H.out.2.2.1 H.out.2.2.2).mono ?_; rintro e w1 ⟨rfl, hb⟩; unfold sete ag4; have H1 := Lib.hid (hb0.out.trans (hb.mono hb0.out.size)); have H2 := Lib.hid (HB.out.below hb); obtain ⟨hc, hf⟩ : (∀ b o, b < w.heap.size + 1 → w1.cell? ⟨b, o, none⟩ = (w.alloc (.cells #[.int .u8 t.1, .int .u32 t.2.1, .int .u32 t.2.2] 33)).cell? ⟨b, o, none⟩) ∧ True := ⟨fun b o h => hb.cell (p := ⟨b, o, none⟩) (by simpa using h), trivial⟩; have t0 := (hc w.heap.size 0 (by omega)).trans (World.cell?_alloc_new w _ 33 0); have t1 := (hc w.heap.size 1 (by omega)).trans (World.cell?_alloc_new w _ 33 1); have t2 := (hc w.heap.size 2 (by omega)).trans (World.cell?_alloc_new w _ 33 2); have hz1 : w.heap.size < w1.heap.size := (by have := hb.size; simp at this; omega); clear hb hc hf)
  have hbn : Below w1.heap.size w1 (w1.alloc (.cells #[.bool (memF L 0), .bool (memF L 1), .bool (memF L 2), .bool (memF L 3)] 75)) := (Below.refl _ w1).alloc (Nat.le_refl _) _
  have H3 := Lib.hid (H2.out.below hbn)
  have H4 := Lib.hid (H1.out.trans (hbn.mono H1.out.size))
  clear hbn
  refine still_lit (by kernel_rfl) (by kernel_rfl) ?_
  obtain ⟨cp0, cp1⟩ := H3.out.cells
  have HM := Lib.hid (H3.out.runs.on (turned_drew (fun _ => False) _) id)
  repeat (first | (refine wpStill_value rfl (exec_look51 (x := .tmp 25) (y := .tmp 26) rfl rfl rfl HM.out ht) ?_; rw [ptrV_get' HR.out]) | still_step)
  refine wpStill_nil ?_
  go_wp2
  go_ret
  exact ⟨rfl, H4.out.drew⟩
end
end Go.Proofs.Ytklalpamcfkngaa.Cm
