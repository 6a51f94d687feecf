/- commit: Take, Settle, running, walked. -/
import Derived.Test.YtklalpamcfkngaaA4
namespace Go.Proofs.Ytklalpamcfkngaa.Cm
open Go Go.RowKit
theorem still_lit {P : Program} {id : Nat} {Q : Exit → Act → World → Prop} {a : Act} {w : World} {l : List Oper} (hm : P.follows .mixedOrders = true) (hB : Region.lexB .any l.toArray = true)
    (h : wpStill P l.toArray w.drew (fun a' => Q .normal a' w.drew) l a) : (Code.region id l.toArray true).wp P Q a w := wp_region_still_lit hm hB h
theorem key33' {t : TK} (h : InK t) : keyOf Try.prog 33 (.agg #[.int .u8 t.1, .int .u32 t.2.1, .int .u32 t.2.2]) = some (KL t) := key33 h
def updT (T : TK → Option Int) (t : TK) (s : Int) : TK → Option Int := fun k => if k = t then some s else T k
def updR (R : TK → Option RunM) (t : TK) (m : RunM) : TK → Option RunM := fun k => if k = t then some m else R k
theorem intV_upd (T : TK → Option Int) (t : TK) (s : Int) : intV (updT T t s) = upd (intV T) t (some (.int .i64 s)) := by
  funext k
  unfold intV updT upd
  by_cases h : k = t <;> simp [h]
section
variable {w w' : World} {B n p a b : Nat} {F : Nat → Prop} {R : TK → Option (Nat × RunM)} {T : TK → Option Int} {t : TK}
theorem book_takes (h : BookAt w B n F p a b R T) {s : Int} (hm : MapV (.int .i64 0) w' b (n + 1) (upd (intV T) t (some (.int .i64 s)))) (hg : w.grownBy w' (some b)) : BookAt w' B (n + 1) F p a b R (updT T t s) := by
  have ne : ∀ k, k ≠ b → k < w.heap.size → w'.heap[k]? = w.heap[k]? := fun k hk hl => hg.block k hl (fun e => hk (Option.some.inj e))
  have hpa := h.pa
  have hab := h.ab
  obtain ⟨_, _, hb2⟩ := map_block h.takes
  refine ⟨(ne p hpa.2 (h.hi p h.fp)).trans h.cell, (h.runs.kept hg (fun e => hab (Option.some.inj e))).mono (Nat.le_succ n), by rw [intV_upd]; exact hm, hab, fun k r hk hr => ⟨?_, (h.each k r hk hr).2⟩, h.inj, Nat.le_trans h.base hg.size, h.fp, h.fa, h.fb, fun k hk => Nat.lt_of_lt_of_le (h.hi k hk) hg.size, h.low⟩
  refine (ne r.1 (fun e => ?_) (h.hi _ (h.each k r hk hr).2)).trans (h.each k r hk hr).1
  have := (h.each k r hk hr).1
  rw [e, hb2] at this
  cases this
end
section
variable {w : World} {B n p : Nat} {F : Nat → Prop} {RM : TK → Option RunM} {T : TK → Option Int} {t : TK}
set_option maxRecDepth 100000 in
theorem take_again (h : Bk w B n F p RM T) (ht : InK t) (hs : stT (T t) ≠ 0) :
    Calls Try.prog 24 #[.pointer (some ⟨p, 0, none⟩), .agg #[.int .u8 t.1, .int .u32 t.2.1, .int .u32 t.2.2]] w fun e w' => e = .returned (.int .i64 7) ∧ Below w.heap.size w w' := by
  obtain ⟨a, b, R, h, hRM⟩ := h
  have hb0 : Below w.heap.size w (w.alloc (.cells #[.int .u8 t.1, .int .u32 t.2.1, .int .u32 t.2.2] 33)) := (Below.refl _ w).alloc (Nat.le_refl _) _
  have H1 := Lib.hid (h.below hb0)
  have HB := Lib.hid hb0
  have h0 : (stT (T t) != 0) = true := by simpa using hs
  clear h hb0 hRM hs
  generalize hq : stT (T t) = q at *
  have HQ := Lib.hid hq
  clear hq
  go_enter Try.func24, Try.ntmps24
  go_wp2
  refine still_lit (by kernel_rfl) (by kernel_rfl) ?_
  obtain ⟨cp0, cp1⟩ := H1.out.cells
  have HM := Lib.hid (H1.out.takes.on (turned_drew (fun _ => False) _) id)
  repeat (first | (refine wpStill_value rfl (exec_look52 (x := .tmp 12) (y := .tmp 13) rfl rfl rfl HM.out ht) ?_; rw [intV_get, HQ.out]) | still_step)
  refine wpStill_nil ?_
  go_wp2
  go_ret
  exact ⟨rfl, HB.out.drew⟩
set_option maxRecDepth 100000 in
theorem take_new (h : Bk w B n F p RM T) (ht : InK t) (hs : stT (T t) = 0) (hn : n ≤ 1000000) :
    Calls Try.prog 24 #[.pointer (some ⟨p, 0, none⟩), .agg #[.int .u8 t.1, .int .u32 t.2.1, .int .u32 t.2.2]] w fun e w' => e = .returned (.int .i64 0) ∧ Did w B (n + 1) F p RM (updT T t 2) w' := by
  obtain ⟨a, b, R, h, hRM⟩ := h
  have hb0 : Below w.heap.size w (w.alloc (.cells #[.int .u8 t.1, .int .u32 t.2.1, .int .u32 t.2.2] 33)) := (Below.refl _ w).alloc (Nat.le_refl _) _
  have H1 := Lib.hid (h.below hb0)
  have HB := Lib.hid hb0
  have HQ := Lib.hid hs
  have HRM := Lib.hid hRM
  have HF := Lib.hid h.fb
  clear h hb0 hRM hs
  go_enter Try.func24, Try.ntmps24
  go_wp2
  refine still_lit (by kernel_rfl) (by kernel_rfl) ?_
  obtain ⟨cp0, cp1⟩ := H1.out.cells
  have HM := Lib.hid (H1.out.takes.on (turned_drew (fun _ => False) _) id)
  repeat (first | (refine wpStill_value rfl (exec_look52 (x := .tmp 12) (y := .tmp 13) rfl rfl rfl HM.out ht) ?_; rw [intV_get, HQ.out]) | still_step)
  refine wpStill_nil ?_
  have hT2 := (H1.out.on (turned_drew (fun _ => False) _) (fun _ _ => id)).on (turned_drew (fun _ => False) _) (fun _ _ => id)
  obtain ⟨D, hD, hD2⟩ := hT2.takes
  have HX := Lib.hid (And.intro hT2 (And.intro hD hD2))
  clear hT2 hD hD2 HM
  go_wp2
  refine still_tail 5 (by kernel_rfl) (by kernel_rfl) ?_
  simp only [List.take_succ_cons, List.take_zero, List.drop_succ_cons, List.drop_zero]
  repeat still_step
  refine wpStill_nil ?_
  refine wpList_mapUpdate_own _ rfl _ _ _ 52 rfl 33 3 law33 Try.underlying52 tok b n D rfl HX.out.2.1 (by unfold maxLen; omega) _ _ _ rfl rfl (key33' ht) _ [] rfl ?_
  intro w1 hown1 hgrow1
  have hMV : MapV (.int .i64 0) w1 b (n + 1) (upd (intV T) t (some (.int .i64 2))) := MapV.stored ht HX.out.2.1 HX.out.2.2 hown1
  have H2 := Lib.hid (show Did w B (n + 1) F p RM (updT T t 2) w1 from
    ⟨F, ⟨a, b, R, book_takes HX.out.1 hMV hgrow1, HRM.out⟩, fun _ h => .inl h, (below_any (G := F) HB.out.drew.drew).then (.of_grown hgrow1 (fun k e => by cases e; exact HF.out))⟩)
  clear hown1 hgrow1 hMV
  go_wp2
  go_ret
  exact ⟨rfl, H2.out⟩
end
end Go.Proofs.Ytklalpamcfkngaa.Cm
