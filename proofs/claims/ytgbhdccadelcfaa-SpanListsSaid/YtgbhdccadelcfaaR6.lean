/- span: a set and the document's set side by side. -/
import Derived.Test.YtgbhdccadelcfaaR5
namespace Go.Proofs.Ytgbhdccadelcfaa.Sp
open Go Go.RowKit
structure PlAt (n0 : Nat) (w0 wr : World) (Zs : Nat → Prop) (p q : Nat) (L : SL) (D : DL) (v u : Value) (F G : Nat → Prop) : Prop where
  s : SpanAt wr n0 F p v L
  x : RefAt wr n0 q G u D
  ap : ∀ k, F k → ¬ G k
  zs : ∀ z, Zs z → z < wr.heap.size ∧ ¬ F z ∧ ¬ G z
  ahead : Below n0 w0 wr
def Pl (n0 : Nat) (w0 wr : World) (Zs : Nat → Prop) (p q : Nat) (L : SL) (D : DL) : Prop := ∃ v u F G, PlAt n0 w0 wr Zs p q L D v u F G
theorem Pl.below {n0 p q : Nat} {w0 wr w' : World} {Zs : Nat → Prop} {L : SL} {D : DL} (h : Pl n0 w0 wr Zs p q L D) (hb : Below wr.heap.size wr w') : Pl n0 w0 w' Zs p q L D := by
  obtain ⟨v, u, F, G, h⟩ := h
  exact ⟨v, u, F, G, h.s.below hb, h.x.below hb, h.ap, fun z hz => ⟨Nat.lt_of_lt_of_le (h.zs z hz).1 hb.size, (h.zs z hz).2⟩, h.ahead.trans (hb.mono h.s.base)⟩
theorem Pl.alloc {n0 p q : Nat} {w0 wr : World} {Zs : Nat → Prop} {L : SL} {D : DL} (h : Pl n0 w0 wr Zs p q L D) (o : Obj) : Pl n0 w0 (wr.alloc o) (fun z => z = wr.heap.size) p q L D := by
  have hb := (Below.refl wr.heap.size wr).alloc (Nat.le_refl _) o
  obtain ⟨v, u, F, G, h⟩ := h
  exact ⟨v, u, F, G, h.s.below hb, h.x.below hb, h.ap, fun z hz => by subst hz; exact ⟨by simp, fun k => by have := h.s.hi _ k; omega, fun k => by have := h.x.hi _ k; omega⟩, h.ahead.trans (hb.mono h.s.base)⟩
theorem Pl.none {n0 p q : Nat} {w0 wr : World} {Zs : Nat → Prop} {L : SL} {D : DL} (h : Pl n0 w0 wr Zs p q L D) : Pl n0 w0 wr (fun _ => False) p q L D := by
  obtain ⟨v, u, F, G, h⟩ := h
  exact ⟨v, u, F, G, h.s, h.x, h.ap, fun z hz => hz.elim, h.ahead⟩
theorem Pl.is {n0 p q : Nat} {w0 wr : World} {Zs : Nat → Prop} {L : SL} {D : DL} (h : Pl n0 w0 wr Zs p q L D) : SetIs n0 w0 wr p L := by
  obtain ⟨v, u, F, G, h⟩ := h
  exact ⟨v, F, h.s, h.ahead⟩
theorem Pl.ref {n0 p q : Nat} {w0 wr : World} {Zs : Nat → Prop} {L : SL} {D : DL} (h : Pl n0 w0 wr Zs p q L D) : RefIs n0 wr q D := by
  obtain ⟨v, u, F, G, h⟩ := h
  exact ⟨G, u, h.x⟩
theorem pl_did {n0 p q : Nat} {w0 wr w' : World} {Zs : Nat → Prop} {L M : SL} {D : DL} {v u : Value} {F G : Nat → Prop} (h : PlAt n0 w0 wr Zs p q L D v u F G) (hd : Did wr n0 F p M w') : Pl n0 w0 w' Zs p q M D ∧ ∀ z, Zs z → w'.heap[z]? = wr.heap[z]? := by
  obtain ⟨v', F', h1, h2, h3⟩ := hd
  refine ⟨⟨v', u, F', G, h1, h.x.on h3 (fun k k1 k2 => h.ap k k2 k1), fun k k1 k2 => ?_, fun z hz => ?_, h.ahead.trans (h3.below h.s.base h.s.low)⟩, fun z hz => h3.block z (h.zs z hz).1 (h.zs z hz).2.1⟩
  · rcases h2 k k1 with k3 | k3
    · exact h.ap k k3 k2
    · have := h.x.hi k k2; omega
  · obtain ⟨z1, z2, z3⟩ := h.zs z hz
    refine ⟨Nat.lt_of_lt_of_le z1 h3.size, fun k1 => ?_, z3⟩
    rcases h2 z k1 with k3 | k3
    · exact z2 k3
    · omega
theorem pl_do {n0 p q : Nat} {w0 wr : World} {Zs : Nat → Prop} {L : SL} {D : DL} (h : Pl n0 w0 wr Zs p q L D) (a b : Int) (c : Bool) (hab : a ≤ b) (hD : D.length ≤ 1000) :
    Calls Try.prog 12 #[.pointer (some ⟨q, 0, none⟩), .int .u32 a, .int .u32 b, .bool c] wr fun e w' => e = .returned (.int .i64 0) ∧ Pl n0 w0 w' Zs p q L (D ++ [(a, b, c)]) ∧ ∀ z, Zs z → w'.heap[z]? = wr.heap[z]? := by
  obtain ⟨v, u, F, G, h⟩ := h
  refine (refdo_ok n0 q G u D a b c wr h.x hab hD).mono ?_
  rintro e w' ⟨rfl, u', G', h1, h2, h3⟩
  refine ⟨rfl, ⟨v, u', F, G', h.s.on h3 (fun k k1 k2 => h.ap k k1 k2), h1, fun k k1 k2 => ?_, fun z hz => ?_, h.ahead.trans (h3.below h.x.base h.x.low)⟩, fun z hz => h3.block z (h.zs z hz).1 (h.zs z hz).2.2⟩
  · rcases h2 k k2 with k3 | k3
    · exact h.ap k k1 k3
    · have := h.s.hi k k1; omega
  · obtain ⟨z1, z2, z3⟩ := h.zs z hz
    refine ⟨Nat.lt_of_lt_of_le z1 h3.size, z2, fun k1 => ?_⟩
    rcases h2 z k1 with k3 | k3
    · exact z3 k3
    · omega
/-- What is behind a deed (its own cells stand as they stood), whatever it was. -/
def PlG (n0 : Nat) (w0 : World) (p q z : Nat) (D : DL) (o : Obj) (G : SL → Prop) (w : World) : Prop := ∃ M, Pl n0 w0 w (fun y => y = z) p q M D ∧ G M ∧ w.heap[z]? = some o
theorem PlG.below {n0 p q z : Nat} {w0 w w' : World} {D : DL} {o : Obj} {G : SL → Prop} (h : PlG n0 w0 p q z D o G w) (hb : Below w.heap.size w w') : PlG n0 w0 p q z D o G w' := by
  obtain ⟨M, h1, h2, h3⟩ := h
  exact ⟨M, h1.below hb, h2, keepD h3 hb⟩
theorem PlG.imp {n0 p q z : Nat} {w0 w : World} {D : DL} {o : Obj} {G H : SL → Prop} (h : PlG n0 w0 p q z D o G w) (hi : ∀ M, Canon M → G M → H M) : PlG n0 w0 p q z D o H w := by
  obtain ⟨M, h1, h2, h3⟩ := h
  exact ⟨M, h1, hi M (by obtain ⟨_, _, _, _, hh⟩ := h1; exact hh.s.can) h2, h3⟩
def AddG (L : SL) (a b : Int) (k : Nat) (M : SL) : Prop := (∀ n, mem M n ↔ mem L n ∨ (a ≤ n ∧ n ≤ b)) ∧ M.length ≤ k
def DropG (L : SL) (a b : Int) (k : Nat) (M : SL) : Prop := (∀ n, mem M n ↔ mem L n ∧ ¬ (a ≤ n ∧ n ≤ b)) ∧ M.length ≤ k
theorem plg_add {n0 p q z : Nat} {w0 w : World} {D : DL} {o : Obj} {G : SL → Prop} (h : PlG n0 w0 p q z D o G w) (L : SL) (a b : Int) (k : Nat) (hG : ∀ M, G M → (∀ n, mem M n ↔ mem L n) ∧ M.length + 1 ≤ k) (hk : k ≤ 1000) (h0 : 0 ≤ a) (hab : a ≤ b) (hb : b ≤ 4294967295) :
    Calls Try.prog 10 #[.pointer (some ⟨p, 0, none⟩), .int .u32 a, .int .u32 b] w fun e w' => e = .returned (.int .i64 0) ∧ PlG n0 w0 p q z D o (AddG L a b k) w' := by
  obtain ⟨M, ⟨v, u, F, F2, h1⟩, h2, h3⟩ := h
  obtain ⟨g1, g2⟩ := hG M h2
  refine (add_ok n0 p F v M a b w h1.s h0 hab hb (by omega)).mono ?_
  rintro e w' ⟨rfl, M', m1, m2, m3⟩
  obtain ⟨k1, k2⟩ := pl_did h1 m3
  exact ⟨rfl, M', k1, ⟨fun n => by rw [m1 n, g1 n], by omega⟩, (k2 z rfl).trans h3⟩
theorem plg_drop {n0 p q z : Nat} {w0 w : World} {D : DL} {o : Obj} {G : SL → Prop} (h : PlG n0 w0 p q z D o G w) (L : SL) (a b : Int) (k : Nat) (hG : ∀ M, G M → (∀ n, mem M n ↔ mem L n ∨ (a ≤ n ∧ n ≤ b)) ∧ M.length + 2 ≤ k) (hk : k ≤ 1000) (h0 : 0 ≤ a) (hab : a ≤ b) (hb : b ≤ 4294967295) :
    Calls Try.prog 11 #[.pointer (some ⟨p, 0, none⟩), .int .u32 a, .int .u32 b] w fun e w' => e = .returned (.int .i64 0) ∧ PlG n0 w0 p q z D o (DropG L a b k) w' := by
  obtain ⟨M, ⟨v, u, F, F2, h1⟩, h2, h3⟩ := h
  obtain ⟨g1, g2⟩ := hG M h2
  refine (drop_ok n0 p F v M a b w h1.s h0 hab hb (by omega)).mono ?_
  rintro e w' ⟨rfl, M', m1, m2, m3⟩
  obtain ⟨k1, k2⟩ := pl_did h1 m3
  refine ⟨rfl, M', k1, ⟨fun n => ?_, by omega⟩, (k2 z rfl).trans h3⟩
  rw [m1 n, g1 n]
  constructor
  · rintro ⟨h | h, h2⟩
    · exact ⟨h, h2⟩
    · exact absurd h h2
  · rintro ⟨h, h2⟩
    exact ⟨.inl h, h2⟩
theorem check_nil (a b : Int) (w : World) (h : a ≤ b) : Calls Try.prog 25 #[.pointer none, .int .u32 a, .int .u32 b] w fun e w' => e = .returned (.int .i64 6) ∧ w = w' := by
  have h' : ¬ b < a := by omega
  go_enter Try.func25, Try.ntmps25
  go_wp2
  go_ret
  exact ⟨rfl, rfl⟩
theorem add_arg (v : Value) (a b : Int) (w : World) (h : b < a) : Calls Try.prog 10 #[v, .int .u32 a, .int .u32 b] w fun e w' => e = .returned (.int .i64 1) ∧ w = w' := by
  go_enter Try.func10, Try.ntmps10
  go_wp2_with (go_at_call 25; refine (check_arg v a b w h).mono ?_; rintro e _ ⟨rfl, rfl⟩)
  go_ret
  exact ⟨rfl, rfl⟩
theorem drop_arg (v : Value) (a b : Int) (w : World) (h : b < a) : Calls Try.prog 11 #[v, .int .u32 a, .int .u32 b] w fun e w' => e = .returned (.int .i64 1) ∧ w = w' := by
  go_enter Try.func11, Try.ntmps11
  go_wp2_with (go_at_call 25; refine (check_arg v a b w h).mono ?_; rintro e _ ⟨rfl, rfl⟩)
  go_ret
  exact ⟨rfl, rfl⟩
theorem add_nil (a b : Int) (w : World) (h : a ≤ b) : Calls Try.prog 10 #[.pointer none, .int .u32 a, .int .u32 b] w fun e w' => e = .returned (.int .i64 6) ∧ w = w' := by
  go_enter Try.func10, Try.ntmps10
  go_wp2_with (go_at_call 25; refine (check_nil a b w h).mono ?_; rintro e _ ⟨rfl, rfl⟩)
  go_ret
  exact ⟨rfl, rfl⟩
theorem drop_nil (a b : Int) (w : World) (h : a ≤ b) : Calls Try.prog 11 #[.pointer none, .int .u32 a, .int .u32 b] w fun e w' => e = .returned (.int .i64 6) ∧ w = w' := by
  go_enter Try.func11, Try.ntmps11
  go_wp2_with (go_at_call 25; refine (check_nil a b w h).mono ?_; rintro e _ ⟨rfl, rfl⟩)
  go_ret
  exact ⟨rfl, rfl⟩
set_option maxRecDepth 100000 in
theorem around_nil (n : Int) (w : World) : Calls Try.prog 33 #[.pointer none, .int .u32 n] w fun e w' => e = .returned (.tuple #[.agg #[.int .u32 0, .int .u32 0], .bool false]) ∧ Below w.heap.size w w' := by
  have hz := Lib.hid (heap_alloc_new w (.cells #[.int .u32 0, .int .u32 0] 46))
  go_enter Try.func33, Try.ntmps33
  go_wp2
  refine bodyPost_ret (res_cell_tmp rfl _ _ w.heap.size _ (.bool false) rfl rfl hz.out rfl) rfl ⟨rfl, (Below.refl _ _).alloc (Nat.le_refl _) _⟩
theorem has_nil (n : Int) (w : World) : Calls Try.prog 21 #[.pointer none, .int .u32 n] w fun e w' => e = .returned (.bool false) ∧ Below w.heap.size w w' := by
  go_enter Try.func21, Try.ntmps21
  go_wp2_with (go_at_call 33; refine (around_nil n w).mono ?_; rintro e w1 ⟨rfl, hb⟩; have HB := Lib.hid (hb.alloc hb.size (.cells #[.int .u32 0, .int .u32 0] 46)); clear hb)
  go_ret
  exact ⟨rfl, HB.out⟩
theorem free_nil (n : Int) (w : World) : Calls Try.prog 19 #[.pointer none, .int .u32 n] w fun e w' => e = .returned (.tuple #[.int .u32 n, .bool true]) ∧ Below w.heap.size w w' := by
  go_enter Try.func19, Try.ntmps19
  go_wp2_with (go_at_call 33; refine (around_nil n w).mono ?_; rintro e w1 ⟨rfl, hb⟩; have HB := Lib.hid (hb.alloc hb.size (.cells #[.int .u32 0, .int .u32 0] 46)); clear hb)
  go_ret2
  exact ⟨rfl, HB.out⟩
end Go.Proofs.Ytgbhdccadelcfaa.Sp
