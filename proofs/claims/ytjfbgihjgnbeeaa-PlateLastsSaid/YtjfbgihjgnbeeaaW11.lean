/- plate: a plate behind a script, walked. -/
import Derived.Test.YtjfbgihjgnbeeaaV1
import Derived.Deep.RegionHeld3
import Derived.Deep.DrawnRows
namespace Go.Proofs.Ytjfbgihjgnbeeaa.Pl
open Go Go.RowKit
attribute [local go_sem ↓] Go.wp_at_zero Go.wp_at_succ
/-- A call of a script: its kind, its page, its bytes. -/
structure OpV where
  kd : Int
  ix : Int
  bs : List Value
def OpAt (w : World) (ao : Option Addr) (k : Nat) (o : OpV) : Prop :=
  ∃ b off bo m c, ao = some ⟨b, off, none⟩ ∧ b < w.heap.size ∧ w.cell? ⟨b, off + k * 3, none⟩ = some (.int .u8 o.kd) ∧ w.cell? ⟨b, off + k * 3 + 1, none⟩ = some (.int .i64 o.ix) ∧
    w.cell? ⟨b, off + k * 3 + 2, none⟩ = some (.slice bo m c) ∧ o.bs.length = m ∧ m ≤ c ∧ c ≤ maxLen ∧ Src w bo o.bs ∧ (bo = none → c = 0)
def OpsAt (w : World) (ao : Option Addr) (L : List OpV) : Prop := ∀ k o, L[k]? = some o → OpAt w ao k o
theorem OpAt.below {w w' : World} {ao : Option Addr} {k : Nat} {o : OpV} (h : OpAt w ao k o) (hb : Below w.heap.size w w') : OpAt w' ao k o := by
  obtain ⟨b, off, bo, m, c, h1, h2, h3, h4, h5, h6, h7, h8, h9, h10⟩ := h
  exact ⟨b, off, bo, m, c, h1, Nat.lt_of_lt_of_le h2 hb.size, (hb.cell (p := ⟨b, _, none⟩) h2).trans h3, (hb.cell (p := ⟨b, _, none⟩) h2).trans h4, (hb.cell (p := ⟨b, _, none⟩) h2).trans h5, h6, h7, h8, h9.below hb, h10⟩
theorem OpsAt.below {w w' : World} {ao : Option Addr} {L : List OpV} (h : OpsAt w ao L) (hb : Below w.heap.size w w') : OpsAt w' ao L := fun k o ho => (h k o ho).below hb
def step1 (s : PSt) (o : OpV) : PSt := if o.kd = 0 then wrote s (o.ix % 8) (pageOf (o.bs.take 64)) else if o.kd = 1 then flushed s else s
def ran (L : List OpV) (k : Nat) : PSt := (L.take k).foldl step1 (st0 8)
theorem ran_succ {L : List OpV} {k : Nat} {o : OpV} (h : L[k]? = some o) : ran L (k + 1) = step1 (ran L k) o := by
  simp [ran, List.take_add_one, h]
theorem step1_ok {s : PSt} {o : OpV} (h : s.N = 8 ∧ s.off = false ∧ s.left = 0) : (step1 s o).N = 8 ∧ (step1 s o).off = false ∧ (step1 s o).left = 0 := by
  obtain ⟨h1, h2, h3⟩ := h
  unfold step1
  split
  · simp [wrote, h1, h3, Of, Lf]
  · split
    · simp [flushed, h1, h2, h3, Lf]
    · exact ⟨h1, h2, h3⟩
theorem step1_len {s : PSt} {o : OpV} : (step1 s o).op.length ≤ s.op.length + 1 := by
  unfold step1
  split
  · simp [wrote]
  · split
    · simp only [flushed]; split <;> simp
    · omega
theorem step1_ops {s : PSt} {o : OpV} : (step1 s o).ops ≤ s.ops + 1 := by
  unfold step1
  split
  · simp [wrote]
  · split
    · simp only [flushed]; split <;> simp
    · omega
theorem fold_ok (L : List OpV) : ∀ s : PSt, s.N = 8 ∧ s.off = false ∧ s.left = 0 → ((L.foldl step1 s).N = 8 ∧ (L.foldl step1 s).off = false ∧ (L.foldl step1 s).left = 0) ∧ (L.foldl step1 s).op.length ≤ s.op.length + L.length ∧ (L.foldl step1 s).ops ≤ s.ops + L.length := by
  induction L with
  | nil => intro s h; exact ⟨h, by simp, by simp⟩
  | cons o L ih =>
    intro s h
    obtain ⟨a, b, c⟩ := ih (step1 s o) (step1_ok h)
    refine ⟨a, ?_, ?_⟩
    · have := @step1_len s o; simp only [List.foldl_cons, List.length_cons]; omega
    · have := @step1_ops s o; simp only [List.foldl_cons, List.length_cons]; omega
theorem ran_ok (L : List OpV) (k : Nat) : (ran L k).N = 8 ∧ (ran L k).off = false ∧ (ran L k).left = 0 ∧ (ran L k).op.length ≤ k ∧ (ran L k).ops ≤ k := by
  obtain ⟨⟨h1, h2, h3⟩, h4, h5⟩ := fold_ok (L.take k) (st0 8) ⟨rfl, rfl, rfl⟩
  refine ⟨h1, h2, h3, ?_, ?_⟩
  · have : (st0 8).op.length = 0 := rfl
    rw [List.length_take] at h4; simp only [ran]; omega
  · have : (st0 8).ops = 0 := rfl
    rw [List.length_take] at h5; simp only [ran]; omega
/-- The plate ahead of round k of the script. -/
def SomI (w : World) (B b bm : Nat) (L : List OpV) (k : Nat) (W : World) : Prop :=
  ∃ (v : Value) (F : Nat → Prop) (n : Nat), PlateAt W B F b n bm v (ran L k) ∧ n ≤ k ∧ Below w.heap.size w W ∧ w.heap.size ≤ B
theorem SomI.alloc {w : World} {B b bm k : Nat} {L : List OpV} {W : World} (h : SomI w B b bm L k W) (o : Obj) : SomI w B b bm L k (W.alloc o) := by
  obtain ⟨v, F, n, h1, h2, h3, h4⟩ := h
  exact ⟨v, F, n, h1.alloc o, h2, h3.alloc h3.size o, h4⟩
theorem SomI.below {w : World} {B b bm k : Nat} {L : List OpV} {W W' : World} (h : SomI w B b bm L k W) (hb : Below W.heap.size W W') : SomI w B b bm L k W' := by
  obtain ⟨v, F, n, h1, h2, h3, h4⟩ := h
  exact ⟨v, F, n, h1.below hb, h2, h3.trans (hb.mono h3.size), h4⟩
theorem SomI.skip {w : World} {B b bm k : Nat} {L : List OpV} {W : World} (h : SomI w B b bm L k W) {o : OpV} (ho : L[k]? = some o) (h0 : o.kd ≠ 0) (h1 : o.kd ≠ 1) : SomI w B b bm L (k + 1) W := by
  obtain ⟨v, F, n, h2, h3, h4⟩ := h
  refine ⟨v, F, n, ?_, by omega, h4⟩
  rw [ran_succ ho, step1, if_neg h0, if_neg h1]
  exact h2
theorem som_flush {w : World} {B b bm k : Nat} {L : List OpV} {W : World} (h : SomI w B b bm L k W) {o : OpV} (ho : L[k]? = some o) (h1 : o.kd = 1) (hk : k < 30) :
    Calls Try.prog 18 #[.pointer (some ⟨b, 0, none⟩)] W fun e w' => e = .returned (.int .i64 0) ∧ SomI w B b bm L (k + 1) w' := by
  obtain ⟨v, F, n, h2, h3, h4, h5⟩ := h
  obtain ⟨r1, r2, r3, r4, r5⟩ := ran_ok L k
  refine (flush_any _ _ _ _ _ _ _ W h2 r2 (by omega)).mono ?_
  rintro e w' ⟨rfl, hD⟩
  obtain ⟨v', F', hP, hB, hs⟩ := hD.at h2.low h2.base
  refine ⟨by rw [r3]; rfl, v', F', n, ?_, by omega, h4.trans (hB.mono h5), h5⟩
  rw [ran_succ ho, step1, if_neg (by omega), if_pos h1]
  exact hP
/-- As SomI; and block s is not the plate's. -/
def SomJ (s : Nat) (w : World) (B b bm : Nat) (L : List OpV) (k : Nat) (W : World) : Prop :=
  ∃ (v : Value) (F : Nat → Prop) (n : Nat), PlateAt W B F b n bm v (ran L k) ∧ n ≤ k ∧ Below w.heap.size w W ∧ w.heap.size ≤ B ∧ ¬ F s ∧ s < W.heap.size
theorem SomI.var {w : World} {B b bm k : Nat} {L : List OpV} {W : World} (h : SomI w B b bm L k W) (o : Obj) : SomJ W.heap.size w B b bm L k (W.alloc o) := by
  obtain ⟨v, F, n, h1, h2, h3, h4⟩ := h
  exact ⟨v, F, n, h1.alloc o, h2, h3.alloc h3.size o, h4, fun e => by have := h1.hi _ e; omega, by simp⟩
theorem SomJ.below {s : Nat} {w : World} {B b bm k : Nat} {L : List OpV} {W W' : World} (h : SomJ s w B b bm L k W) (hb : Below W.heap.size W W') : SomJ s w B b bm L k W' := by
  obtain ⟨v, F, n, h1, h2, h3, h4, h5, h6⟩ := h
  exact ⟨v, F, n, h1.below hb, h2, h3.trans (hb.mono h3.size), h4, h5, Nat.lt_of_lt_of_le h6 hb.size⟩
theorem SomJ.plain {s : Nat} {w : World} {B b bm k : Nat} {L : List OpV} {W : World} (h : SomJ s w B b bm L k W) : SomI w B b bm L k W := by
  obtain ⟨v, F, n, h1, h2, h3, h4, h5, h6⟩ := h
  exact ⟨v, F, n, h1, h2, h3, h4⟩
theorem som_write {s : Nat} {w : World} {B b bm k : Nat} {L : List OpV} {W : World} (h : SomJ s w B b bm L k W) {o : OpV} (ho : L[k]? = some o) (h1 : o.kd = 0) (hk : k < 30) (ao : Option Addr) (len cap : Nat) (hl : (o.bs.take 64).length = len) (hs : Src W ao (o.bs.take 64)) :
    Calls Try.prog 16 #[.pointer (some ⟨b, 0, none⟩), .int .i64 (o.ix % 8), .slice ao len cap] W fun e w' => e = .returned (.int .i64 0) ∧ SomI w B b bm L (k + 1) w' ∧ ∀ i, w'.cell? ⟨s, i, none⟩ = W.cell? ⟨s, i, none⟩ := by
  obtain ⟨v, F, n, h2, h3, h4, h5, h6, h7⟩ := h
  obtain ⟨r1, r2, r3, r4, r5⟩ := ran_ok L k
  have hlen : len ≤ 64 := by rw [← hl, List.length_take]; omega
  refine (write_ok _ _ _ _ _ _ _ (o.ix % 8) ao len cap _ W h2 r2 (by omega) (by rw [r1]; omega) hl hlen hs (by unfold maxLen; omega) (by omega) (by omega)).mono ?_
  rintro e w' ⟨rfl, hD⟩
  have hD' := hD
  obtain ⟨v', F', hP, hB, _⟩ := hD'.at h2.low h2.base
  obtain ⟨_, _, _, _, hT⟩ := hD
  refine ⟨by rw [r3]; rfl, ⟨v', F', n + 1, ?_, by omega, h4.trans (hB.mono h5), h5⟩, fun i => World.cell?_of_block (hT.block s h7 h6)⟩
  rw [ran_succ ho, step1, if_pos h1]
  exact hP
/-- What the script's plate is in the end. -/
def ends (L : List OpV) : PSt := flushed (ran L (min L.length 30))
def SomeR (L : List OpV) (w : World) (e : Ending) (w' : World) : Prop :=
  ∃ (b bm n : Nat) (v : Value) (F : Nat → Prop), e = .returned (.tuple #[.pointer (some ⟨b, 0, none⟩), .bool true]) ∧ PlateAt w' w.heap.size F b n bm v (ends L) ∧ n ≤ 30 ∧ Below w.heap.size w w'
theorem Src.take {w : World} {ao : Option Addr} {bs : List Value} (h : Src w ao bs) (n : Nat) : Src w ao (bs.take n) := by
  refine ⟨fun h0 => ?_, fun x hx => h.2 x (List.mem_of_mem_take hx)⟩
  obtain ⟨ad, e, hc⟩ := h.1 (by rw [List.length_take] at h0; omega)
  refine ⟨ad, e, fun j v hv => hc j v ?_⟩
  rw [List.getElem?_take] at hv
  split at hv
  · exact hv
  · simp at hv
end Go.Proofs.Ytjfbgihjgnbeeaa.Pl
