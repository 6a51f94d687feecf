/- One set beside what must stay as it is. -/
import Derived.Test.YtgbhdccadelcfaaU5
import Derived.Test.YtgbhdccadelcfaaT7
import Derived.Test.YtgbhdccadelcfaaM2
namespace Go.Proofs.Ytgbhdccadelcfaa.Sp
open Go Go.RowKit
/-- A set of the call's own, and what holds as long as the blocks beside it stay. -/
def KSt (n0 : Nat) (w0 : World) (p : Nat) (C : SL → Prop) (R : World → Prop) (wr : World) : Prop :=
  ∃ Zs T, C T ∧ One n0 w0 wr Zs p T ∧ ∀ w', Turned (fun k => ¬ Zs k) wr w' → R w'
variable {n0 p : Nat} {w0 wr w' : World} {C : SL → Prop} {R : World → Prop}
theorem KSt.r (h : KSt n0 w0 p C R wr) : R wr := by
  obtain ⟨Zs, T, _, _, h3⟩ := h
  exact h3 wr (.refl _ _)
theorem KSt.ahead (h : KSt n0 w0 p C R wr) : Below n0 w0 wr := by
  obtain ⟨Zs, T, _, h2, _⟩ := h
  exact h2.is.ahead
theorem KSt.below (h : KSt n0 w0 p C R wr) (hb : Below wr.heap.size wr w') : KSt n0 w0 p C R w' := by
  obtain ⟨Zs, T, h1, h2, h3⟩ := h
  exact ⟨Zs, T, h1, h2.below hb, fun w'' ht => h3 w'' ((below_any hb).trans ht (fun i hi => .inl hi))⟩
theorem KSt.imp {D : SL → Prop} (h : KSt n0 w0 p C R wr) (hi : ∀ T, Canon T → C T → D T) : KSt n0 w0 p D R wr := by
  obtain ⟨Zs, T, h1, h2, h3⟩ := h
  exact ⟨Zs, T, hi T h2.can h1, h2, h3⟩
theorem KSt.more {Q : World → Prop} (h : KSt n0 w0 p C R wr) (hb : Below wr.heap.size wr w') (hQ : ∀ w'', Turned (fun k => k < wr.heap.size ∨ w'.heap.size ≤ k) w' w'' → Q w'') : KSt n0 w0 p C (fun w => R w ∧ Q w) w' := by
  obtain ⟨Zs, T, h1, ⟨v, F, k1, k2, k3⟩, h3⟩ := h
  refine ⟨fun z => Zs z ∨ (wr.heap.size ≤ z ∧ z < w'.heap.size), T, h1, ⟨v, F, k1.below hb, fun z hz => ?_, k3.trans (hb.mono k1.base)⟩, fun w'' ht => ⟨h3 w'' ((below_any hb).trans (ht.mono (H := fun k => ¬ Zs k) (fun i hi hz => hi (.inl hz))) (fun i hi => .inl hi)), hQ w'' (ht.mono (fun i hi => ?_))⟩⟩
  · rcases hz with hz | ⟨z1, z2⟩
    · exact ⟨Nat.lt_of_lt_of_le (k2 z hz).1 hb.size, (k2 z hz).2⟩
    · exact ⟨z2, fun hf => by have := k1.hi z hf; omega, Nat.le_trans k1.base z1⟩
  · by_cases h1 : i < wr.heap.size
    · exact .inl h1
    · exact .inr (Nat.le_of_not_lt fun h2 => hi (.inr ⟨by omega, h2⟩))
def AddC (C : SL → Prop) (a b : Int) (M : SL) : Prop := ∃ T, C T ∧ (∀ n, mem M n ↔ mem T n ∨ (a ≤ n ∧ n ≤ b)) ∧ M.length ≤ T.length + 1
def DropC (C : SL → Prop) (a b : Int) (M : SL) : Prop := ∃ T, C T ∧ (∀ n, mem M n ↔ mem T n ∧ ¬ (a ≤ n ∧ n ≤ b)) ∧ M.length ≤ T.length + 2
theorem kst_did {Zs : Nat → Prop} {v : Value} {F : Nat → Prop} {L M : SL} (k1 : SpanAt wr n0 F p v L) (k2 : ∀ z, Zs z → z < wr.heap.size ∧ ¬ F z ∧ n0 ≤ z) (k3 : Below n0 w0 wr) (hd : Did wr n0 F p M w') (h3 : ∀ w', Turned (fun k => ¬ Zs k) wr w' → R w') : One n0 w0 w' Zs p M ∧ ∀ w'', Turned (fun k => ¬ Zs k) w' w'' → R w'' := by
  obtain ⟨v', F', m1, m2, m3⟩ := hd
  refine ⟨⟨v', F', m1, fun z hz => ?_, k3.trans (m3.below k1.base k1.low)⟩, fun w'' ht => h3 w'' ((m3.mono (H := fun k => ¬ Zs k) (fun i hi hz => (k2 i hz).2.1 hi)).trans ht (fun i hi => .inl hi))⟩
  obtain ⟨z1, z2, z3⟩ := k2 z hz
  refine ⟨Nat.lt_of_lt_of_le z1 m3.size, fun k => ?_, z3⟩
  rcases m2 z k with k4 | k4
  · exact z2 k4
  · omega
theorem kst_add (h : KSt n0 w0 p C R wr) (a b : Int) (h0 : 0 ≤ a) (hab : a ≤ b) (hb : b ≤ 4294967295) (hC : ∀ T, C T → T.length ≤ 1000) :
    Calls Try.prog 10 #[.pointer (some ⟨p, 0, none⟩), .int .u32 a, .int .u32 b] wr fun e w' => e = .returned (.int .i64 0) ∧ KSt n0 w0 p (AddC C a b) R w' := by
  obtain ⟨Zs, T, h1, ⟨v, F, k1, k2, k3⟩, h3⟩ := h
  refine (add_ok n0 p F v T a b wr k1 h0 hab hb (hC T h1)).mono ?_
  rintro e w' ⟨rfl, M, hM, hl, hd⟩
  obtain ⟨g1, g2⟩ := kst_did k1 k2 k3 hd h3
  exact ⟨rfl, Zs, M, ⟨T, h1, hM, hl⟩, g1, g2⟩
theorem kst_drop (h : KSt n0 w0 p C R wr) (a b : Int) (h0 : 0 ≤ a) (hab : a ≤ b) (hb : b ≤ 4294967295) (hC : ∀ T, C T → T.length ≤ 1000) :
    Calls Try.prog 11 #[.pointer (some ⟨p, 0, none⟩), .int .u32 a, .int .u32 b] wr fun e w' => e = .returned (.int .i64 0) ∧ KSt n0 w0 p (DropC C a b) R w' := by
  obtain ⟨Zs, T, h1, ⟨v, F, k1, k2, k3⟩, h3⟩ := h
  refine (drop_ok n0 p F v T a b wr k1 h0 hab hb (hC T h1)).mono ?_
  rintro e w' ⟨rfl, M, hM, hl, hd⟩
  obtain ⟨g1, g2⟩ := kst_did k1 k2 k3 hd h3
  exact ⟨rfl, Zs, M, ⟨T, h1, hM, hl⟩, g1, g2⟩
theorem KSt.set (h : KSt n0 w0 p C R wr) : ∃ T, C T ∧ SetIs n0 w0 wr p T := by
  obtain ⟨Zs, T, h1, h2, _⟩ := h
  exact ⟨T, h1, h2.is⟩
/-- A list of the call's own that was made between. -/
theorem row_in {w w1 w2 : World} {e n : Nat} {v : Value} {xs : List Value} (h : w1.ownsRow w.heap.size e 2 v n xs) (ht : Turned (fun k => k < w.heap.size ∨ w1.heap.size ≤ k) w1 w2) : w2.ownsRow w.heap.size e 2 v n xs :=
  own_on h (fun g hg => by
    have := World.ownsRow.lt h g hg
    exact ht.block g this.2 (by omega))
/-- A set that was made between. -/
def Set2 (n0 p : Nat) (L : SL) (w : World) : Prop := ∃ v F, SpanAt w n0 F p v L
theorem set_in {w w1 w2 w3 : World} {q n0 : Nat} {L : SL} (h : SetIs w.heap.size w3 w1 q L) (hn : n0 ≤ w.heap.size) (ht : Turned (fun k => k < w.heap.size ∨ w1.heap.size ≤ k) w1 w2) : Set2 n0 q L w2 := by
  obtain ⟨v, F, h1, _⟩ := h
  have h2 := h1.on ht (fun k hk => by have := h1.hi k hk; have := h1.low k hk; omega)
  exact ⟨v, F, ⟨h2.at_.1, own_base2 h2.at_.2 hn⟩, h2.can, Nat.le_trans hn h2.base, h2.fp, h2.fv, h2.hi, fun k hk => Nat.le_trans hn (h2.low k hk)⟩
theorem Set2.is {q : Nat} {L : SL} {w : World} (h : Set2 n0 q L w) (hb : Below n0 w0 w) : SetIs n0 w0 w q L := by
  obtain ⟨v, F, h⟩ := h
  exact ⟨v, F, h, hb⟩
/-- The start: a new set beside a box. -/
theorem kst_new {w w1 w2 : World} {o : Obj} (hz : w1.heap[w.heap.size]? = some o) (hb : Below w.heap.size w w1) (h : SetIs w1.heap.size w1 w2 p []) : KSt w.heap.size w p (fun T => T.length ≤ 0) (fun wr => wr.heap[w.heap.size]? = some o) w2 := by
  have hl := (Array.getElem?_eq_some_iff.1 hz).1
  have hb2 := h.ahead
  obtain ⟨v, F, h1, h2⟩ := setis_base h hb.size hb
  obtain ⟨v', F', g1, g2⟩ := h
  refine ⟨fun z => z = w.heap.size, [], Nat.le_refl _, ⟨v', F', ⟨⟨g1.at_.1, own_base2 g1.at_.2 hb.size⟩, g1.can, Nat.le_trans hb.size g1.base, g1.fp, g1.fv, g1.hi, fun k hk => Nat.le_trans hb.size (g1.low k hk)⟩, fun z hz' => ?_, hb.trans (hb2.mono hb.size)⟩, fun w' ht => ?_⟩
  · subst hz'
    exact ⟨Nat.lt_of_lt_of_le hl hb2.size, fun hf => by have := g1.low _ hf; omega, Nat.le_refl _⟩
  · exact (ht.block _ (Nat.lt_of_lt_of_le hl hb2.size) (fun hn => hn rfl)).trans ((hb2.block _ hl).trans hz)
theorem cnt_le (f g : Int → Bool) (N : Nat) (h : ∀ n, f n = true → g n = true) : cnt f N ≤ cnt g N := by
  induction N with
  | zero => exact Int.le_refl _
  | succ N ih =>
    have := h N
    simp only [cnt]
    generalize f N = x at *
    generalize g N = y at *
    cases x <;> cases y <;> simp at this ⊢ <;> omega
theorem card_sub {K Y : SL} (hK : Canon K) (hY : Canon Y) (h : ∀ n, mem K n → mem Y n) : card K ≤ card Y := by
  obtain ⟨N, hN⟩ : ∃ N : Nat, (4294967295 : Int) < N := ⟨4294967296, by omega⟩
  have b : ∀ X : SL, Canon X → ∀ t ∈ X, t.2 < N := fun X hX t ht => by have := hX.2 t ht; omega
  rw [← card_cnt K N hK (b K hK), ← card_cnt Y N hY (b Y hY)]
  exact cnt_le _ _ N (fun n hn => (hasB_iff Y n).2 (h n ((hasB_iff K n).1 hn)))
theorem KSt.fix (h : KSt n0 w0 p C R wr) : ∃ S, C S ∧ Canon S ∧ KSt n0 w0 p (fun T => T = S) R wr := by
  obtain ⟨Zs, T, h1, h2, h3⟩ := h
  exact ⟨T, h1, h2.can, Zs, T, rfl, h2, h3⟩
end Go.Proofs.Ytgbhdccadelcfaa.Sp
